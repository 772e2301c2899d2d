/-
  ChainJoins: whatever four numbers come in, the law returns true, and the input reads behind the call as it did.
-/
import Derived.Test.YtmamihlilgmnaaaRows
import Derived.WalkKit
import Derived.ProofKit
import Derived.OpenShut
import Derived.Test.YtmamihlilgmnaaaChainAwake
import Derived.Test.YtmamihlilgmnaaaChainLaw
import Derived.Test.YtmamihlilgmnaaaChainSame
import Derived.Test.YtmamihlilgmnaaaTwo8
import Derived.Test.YtmamihlilgmnaaaQuietImp
import Derived.Test.YtmamihlilgmnaaaWf
import Derived.ShutString
import Derived.ChangeOld
import Derived.Below
namespace Go.Proofs.Ytmamihlilgmnaaa.chainJoins
open Go.ChangeShapes Go.WideShapes Go.ChangeAt Go.RowKit
open Go.ChangeMaps (open_string shut_string)
set_option linter.unusedVariables false

theorem own : ownKnob Try.prog.godebug = none := by kernel_rfl
theorem laidOut : laidOutB Try.prog = true := by kernel_rfl

theorem own_below {w w' : World} {base n k : Nat} {e : TypeId} {v : Value} {xs : List Value} (h : w.ownsRow base e k v n xs) (hb : Below w.heap.size w w') : w'.ownsRow base e k v n xs := by
  obtain ⟨h1, h2 | ⟨g, cap, cur, hv, hb', hg, hr⟩⟩ := h
  · exact ⟨h1, .inl h2⟩
  · exact ⟨h1, .inr ⟨g, cap, cur, hv, hb', (hb.block _ (Array.getElem?_eq_some_iff.1 hg).1).trans hg, hr⟩⟩
theorem own_slice {W : World} {base n : Nat} {v : Value} {us : List Sp} (h : W.ownsRow base 29 3 v n (flat us)) : ∃ a c, v = .slice a n c ∧ Spans W W.heap.size a n us := by
  have hl : us.length = n := by have := h.1; rw [flat_len] at this; omega
  rcases h.2 with ⟨rfl, rfl⟩ | ⟨g, cap, cur, rfl, _⟩
  · obtain rfl : us = [] := List.length_eq_zero_iff.1 hl
    exact ⟨none, 0, rfl, Spans.empty _ _ _⟩
  · exact ⟨_, _, rfl, OwnS.spans h⟩

/-! ### The walk -/
set_option maxRecDepth 20000 in
set_option maxHeartbeats 1000000 in
theorem walk (a : Int) (n0 n1 : Int) (b : Int) (w : World) (ha : (Lit.int .u16 a).wf = true) (hn0 : 0 ≤ n0 ∧ n0 ≤ 255) (hn1 : 0 ≤ n1 ∧ n1 ≤ 255) (hb : (Lit.int .u8 b).wf = true) :
    Calls Try.prog 5 #[.int .u16 a, .agg #[.int .u8 n0, .int .u8 n1], .int .u8 b] w fun e w' => e = .returned (.bool true) ∧ Below w.heap.size w w' := by
  have ha2 := wfu16 ha
  have hb2 := wfu8 hb
  clear ha hb
  obtain ⟨A, rfl⟩ : ∃ A : Nat, a = A := ⟨a.toNat, by omega⟩
  obtain ⟨X, rfl⟩ : ∃ A : Nat, n0 = A := ⟨n0.toNat, by omega⟩
  obtain ⟨Y, rfl⟩ : ∃ A : Nat, n1 = A := ⟨n1.toNat, by omega⟩
  obtain ⟨P, hP⟩ : ∃ P : Nat, 8 + b = (P : Int) := ⟨(8 + b).toNat, by omega⟩
  have hPb : 8 ≤ P ∧ P ≤ 263 := by omega
  have hwP : IntKind.i64.wrap (8 + b) = (P : Int) := (IntWalk.i64_in _ (by omega)).trans hP
  have HC1 := Lib.hid (fun v => cut_any (A : Int) (X : Int) (P : Int) v (by omega) (by omega) (by omega))
  have HC2 := Lib.hid (fun v => cut_any ((A : Int) + (X : Int)) (Y : Int) (P : Int) v (by omega) (by omega) (by omega))
  have HC3 := Lib.hid (fun v => cut_any (A : Int) ((X : Int) + (Y : Int)) (P : Int) v (by omega) (by omega) (by omega))
  have q1 : cutI (A : Int) (X : Int) (P : Int) = cutL P (A + X) A := cutI_nat (by omega) (by omega)
  have q2 : cutI ((A : Int) + (X : Int)) (Y : Int) (P : Int) = cutL P (A + X + Y) (A + X) := by
    have := cutI_nat (A := A + X) (N := Y) (P := P) (by omega) (by omega)
    rwa [Int.natCast_add] at this
  have q3 : cutI (A : Int) ((X : Int) + (Y : Int)) (P : Int) = cutL P (A + X + Y) A := by
    have := cutI_nat (A := A) (N := X + Y) (P := P) (by omega) (by omega)
    rwa [Int.natCast_add, ← Nat.add_assoc] at this
  rw [q1] at HC1
  rw [q2] at HC2
  rw [q3] at HC3
  have l1 := len_bytes (p := P) (e := A + X) (x := A) (by omega)
  have l2 := len_bytes (p := P) (e := A + X + Y) (x := A + X) (by omega)
  obtain ⟨L1, hL1⟩ : ∃ L, cutL P (A + X) A = L := ⟨_, rfl⟩
  obtain ⟨L2, hL2⟩ : ∃ L, cutL P (A + X + Y) (A + X) = L := ⟨_, rfl⟩
  obtain ⟨L3, hL3⟩ : ∃ L, cutL P (A + X + Y) A = L := ⟨_, rfl⟩
  rw [hL1] at HC1 l1
  rw [hL2] at HC2 l2
  rw [hL3] at HC3
  obtain ⟨r, hr⟩ : ∃ r, (A + X) % P = r := ⟨_, rfl⟩
  have hr1 : ((A : Int) + (X : Int)).tmod (P : Int) = (r : Int) := by
    rw [← Int.natCast_add, ← hr]
    rfl
  have hr2 : ((A : Int) + (X : Int)) % (P : Int) = (r : Int) := by
    rw [← Int.natCast_add, ← hr]
    simp
  have hp0 : ¬ (P : Int) = 0 := by omega
  have hrP : r ≤ 263 := by have := Nat.mod_lt (A + X) (show 0 < P by omega); omega
  have WAY : Hid ((0 < X ∧ 0 < Y ∧ ¬ r = 0 ∧ L1.length + L2.length = L3.length + 1) ∨ (¬ (0 < X ∧ 0 < Y ∧ ¬ r = 0) ∧ L1 ++ L2 = L3)) := Lib.hid (by
    rw [← hL1, ← hL2, ← hL3, ← hr]
    by_cases c : 0 < X ∧ 0 < Y ∧ ¬ (A + X) % P = 0
    · exact .inl ⟨c.1, c.2.1, c.2.2, len_two (by omega) (by omega) (by omega) c.2.2⟩
    · refine .inr ⟨c, ?_⟩
      by_cases x0 : X = 0
      · subst x0
        rw [Nat.add_zero, cutL_done (Nat.le_refl _), List.nil_append]
      · by_cases y0 : Y = 0
        · subst y0
          rw [Nat.add_zero, cutL_done (Nat.le_refl (A + X)), List.append_nil]
        · exact cutL_join (by omega) (by omega) (by omega) _ _ rfl (by omega))
  clear q1 q2 q3 hL1 hL2 hL3 hr hP
  go_enter Try.func5, Try.ntmps5
  go_wp2_with fail
  refine (awake16_any _).mono ?_
  rintro e w0 ⟨rfl, b0⟩
  have n0 : w0.cell? ⟨w.heap.size, 0, none⟩ = some (.int .u8 (X : Int)) := (b0.cell (p := ⟨w.heap.size, 0, none⟩) (by simp)).trans (by simp)
  have n1 : w0.cell? ⟨w.heap.size, 1, none⟩ = some (.int .u8 (Y : Int)) := (b0.cell (p := ⟨w.heap.size, 1, none⟩) (by simp)).trans (by simp)
  have B0 := Lib.hid (belowT (below1 w _) b0)
  clear b0
  go_wp2_with fail
  refine (HC1.out _).mono ?_
  rintro e w2 ⟨a1, c1, rfl, s1, b2⟩
  have O2 := own_below (World.ownsRow_lit (base := w0.heap.size) (e := 29) (size := 3) w0 #[] 0 (Nat.le_refl _) (by unfold maxLen; omega) rfl) b2
  have B2 := Lib.hid (belowT B0.out (belowT (below1 w0 _) b2))
  have sz2 : w0.heap.size ≤ w2.heap.size := Nat.le_trans (by simp) b2.size
  obtain ⟨v3, w3, run3, O3, g3⟩ := app_spans (us := []) (c := c1) O2 s1 sz2 (by omega) 24
  have B3 := Lib.hid (belowT B0.out (((belowT (below1 w0 _) b2)).grown g3 sz2 (fun k hk => (O2.lt k hk).1)))
  have HO3 := Lib.hid O3
  have SZ3 := Lib.hid (Nat.le_trans sz2 g3.size)
  clear b2 s1 O2 sz2 O3 g3
  go_wp2_with (at_builtin; refine wpList_append_run rfl (.tmp 26) (.tmp 30) rfl rfl rfl rfl run3 ?_)
  refine (HC2.out _).mono ?_
  rintro e w4 ⟨a2, c2, rfl, s4, b4⟩
  have O4 := own_below HO3.out b4
  have sz4 := Nat.le_trans SZ3.out b4.size
  obtain ⟨v5, w5, run5, O5, g5⟩ := app_spans (c := c2) O4 s4 sz4 (by omega) 24
  have B5 := Lib.hid ((belowT B3.out b4).grown g5 (Nat.le_trans B0.out.size sz4) (fun k hk => Nat.le_trans B0.out.size (O4.lt k hk).1))
  obtain ⟨a5, c5, rfl, s5⟩ := own_slice O5
  have S5 := Lib.hid s5
  clear b4 s4 O4 sz4 O5 g5 s5 run3
  go_wp2_with (at_builtin; refine wpList_append_run rfl (.tmp 31) (.tmp 37) rfl rfl rfl rfl run5 ?_)
  refine (HC3.out _).mono ?_
  rintro e w6 ⟨a6, c6, rfl, s6, b6⟩
  have B6 := Lib.hid (belowT B5.out b6)
  have S6 := Lib.hid s6
  have S56 := Lib.hid (S5.out.on b6)
  clear b6 s6 run5
  rcases WAY.out with ⟨x0, y0, r0, hlen⟩ | ⟨hno, hsame⟩
  · have dx : decide (0 < (X : Int)) = true := by simpa using x0
    have dy : decide (0 < (Y : Int)) = true := by simpa using y0
    have dr : ((r : Int) != 0) = true := by simpa using r0
    have dl : (((0 + L1.length + L2.length : Nat) : Int) == (L3.length : Int) + 1) = true := by simp; omega
    have dl2 : (((0 : Int) + (L1.length : Int) + (L2.length : Int)) == (L3.length : Int) + 1) = true := by simp; omega
    have hb3 : L3.length ≤ 1000 := by omega
    go_wp2
    go_ret
    exact ⟨rfl, B6.out⟩
  · have hn5 : L1.length + L2.length = L3.length := by rw [← hsame]; simp
    rw [Nat.zero_add, hn5] at S56
    rw [hn5]
    have e5 : [] ++ L1 ++ L2 = L3 := by simpa using hsame
    rw [e5] at S56
    have HS := Lib.hid (same16_any a5 a6 L3.length c5 c6 L3 w6 S56.out S6.out)
    have hd : X = 0 ∨ (0 < X ∧ Y = 0) ∨ (0 < X ∧ 0 < Y ∧ r = 0) := by
      by_cases q : 0 < X
      · by_cases q' : 0 < Y
        · exact .inr (.inr ⟨q, q', Classical.byContradiction fun h => hno ⟨q, q', h⟩⟩)
        · exact .inr (.inl ⟨q, by omega⟩)
      · exact .inl (by omega)
    clear hno hsame e5 S56 S6 WAY
    rcases hd with h1 | ⟨h1, h2⟩ | ⟨h1, h2, h3⟩
    · have d1 : decide (0 < (X : Int)) = false := by simp; omega
      have d1' : ¬ (0 : Int) < (X : Int) := by omega
      go_wp2_with fail
      refine HS.out.mono ?_
      rintro e w7 ⟨rfl, b7⟩
      have B7 := Lib.hid (belowT B6.out b7)
      clear b7
      go_wp2
      go_ret
      exact ⟨rfl, B7.out⟩
    · have d1 : decide (0 < (X : Int)) = true := by simp; omega
      subst h2
      go_wp2_with fail
      refine HS.out.mono ?_
      rintro e w7 ⟨rfl, b7⟩
      have B7 := Lib.hid (belowT B6.out b7)
      clear b7
      go_wp2
      go_ret
      exact ⟨rfl, B7.out⟩
    · have d1 : decide (0 < (X : Int)) = true := by simp; omega
      have d2 : decide (0 < (Y : Int)) = true := by simp; omega
      subst h3
      go_wp2_with fail
      refine HS.out.mono ?_
      rintro e w7 ⟨rfl, b7⟩
      have B7 := Lib.hid (belowT B6.out b7)
      clear b7
      go_wp2
      go_ret
      exact ⟨rfl, B7.out⟩

/-! ### The frame of the row -/
set_option maxRecDepth 100000 in
theorem lifted (os : Os) (started : os.Started) (H : Type) (enc : TypeId × Value → H) :
    ReturnsInHanded {} Try.checked os 5 .any (Rows.chainJoinsSpec.pre6 enc Try.prog Try.f5 Rows.chainJoinsRow.domain false) (Rows.chainJoinsSpec.post enc Try.prog Try.f5 false true false false) := by
  refine returnsInHanded_of_change (C := Try.checked) own started (by kernel_rfl) Try.func5
    (ChangeSpec.witness6 (enc := enc) (C := Try.checked) false ⟨#[], #[.int .u16 0, .agg #[.int .u8 0, .int .u8 0], .int .u8 0], []⟩ 8 (by kernel_rfl) (by kernel_rfl) (by kernel_rfl) (by kernel_rfl)) ?_
  intro W base args ds gs before hval0 hW hcnd _
  have hval : ∀ (j : Nat) t v, Try.f5.params[j]? = some t → args[j]? = some v → Value.okWide Try.prog W .any base t v := hval0
  have hW' := hW
  obtain ⟨p, q, hA0, hV, rfl, hfz, hnd⟩ := hW
  have hA : DataW.TrodAll enc Try.prog W 0 (fun _ => true) true Try.f5.params.toList args.toList ds p := hA0
  rw [Try.params5] at hA hval
  obtain ⟨v0, vs0, d0, ds0, p0, q0, hargs, rfl, rfl, h0, r0⟩ := trodAll_cons hA
  obtain ⟨v1, vs1, d1, ds1, p1, q1, rfl, rfl, rfl, h1, r1⟩ := trodAll_cons r0
  obtain ⟨v2, vs2, d2, ds2, p2, q2, rfl, rfl, rfl, h2, r2⟩ := trodAll_cons r1
  obtain ⟨rfl, rfl, rfl⟩ := trodAll_nil r2
  obtain rfl : args = #[v0, v1, v2] := by cases args; simp_all
  obtain ⟨rfl, rfl⟩ := trodVars_none hV
  obtain ⟨a, rfl, rfl, rfl, ha⟩ := open_int Try.underlying27 (hval 0 27 v0 rfl rfl) h0
  have k1 := h1
  have lt1 : ∀ x ∈ p1, x.block < W.heap.size := by obtain ⟨m, hm⟩ := k1; exact DataW.trod_lt m _ _ _ hm
  obtain ⟨n0, n1, rfl, hn0, hn1⟩ := open_two (hval 1 32 v1 rfl rfl) h1
  obtain ⟨b, rfl, rfl, rfl, hb⟩ := open_int Try.underlying5 (hval 2 5 v2 rfl rfl) h2
  clear hA0 hval0
  refine (walk a n0 n1 b W ha hn0 hn1 hb).mono fun e W' ⟨he, bel⟩ => ?_
  subst he
  exact ⟨_, rfl, _, _, _, [], _, [], hW', trodAll_mk1 (shut_bool Try.underlying4 _), (trodAll_cons_mk (shut_int Try.underlying27 ha) (trodAll_cons_mk (Below.trod laidOut (by kernel_rfl) (of_decide_eq_true (by kernel_rfl)) k1 bel lt1) (trodAll_cons_mk (shut_int Try.underlying5 hb) trodAll_mk0))), rfl, bel.frame _, fun h => by cases h⟩

theorem over : Rows.chainJoinsRow.holds Try.pinned (OpenSpec.ofChange Rows.chainJoinsSpec) :=
  OpenClaim.holds_of_wide 5 Try.f5 rfl rfl rfl rfl rfl rfl rfl ⟨rfl, rfl, rfl, rfl, rfl⟩ rfl rfl rfl rfl rfl (by kernel_rfl) Try.func5 (by kernel_rfl)
    (of_decide_eq_true (by kernel_rfl)) (by unfold Func.isWrapper; first | (rw [if_pos (by decide +kernel)]; kernel_rfl) | (rw [if_neg (by decide +kernel)]; exact ⟨rfl, rfl⟩))
    (fun os started H enc _ => lifted os started H enc)

theorem proved : Rows.ChainJoinsSaid := over
#print axioms proved
end Go.Proofs.Ytmamihlilgmnaaa.chainJoins
