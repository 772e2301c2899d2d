/-
  PageBack: a block that is taken, and given back, leaves the page as it was; one that is handed on has the new owner alone. No condition.
-/
import Derived.Test.YtglaohclbepmfaaRows
import Derived.WalkKit
import Derived.ProofKit
import Derived.OpenShut
import Derived.Test.YtglaohclbepmfaaPageRun
import Derived.ShutString
import Derived.ChangeOld
import Derived.Below
namespace Go.Proofs.Ytglaohclbepmfaa.pageBack
open Go.ChangeShapes Go.WideShapes Go.ChangeAt Go.RowKit
open Go.ChangeMaps (open_string shut_string)
set_option linter.unusedVariables false

theorem own : ownKnob Try.prog.godebug = none := by kernel_rfl
theorem laidOut : laidOutB Try.prog = true := by kernel_rfl

theorem set_back {X : List Int} {i : Nat} {a c : Int} (h : ow X i = -1) : ((X.set i a).set i c).set i (-1) = X := by
  apply List.ext_getElem?
  intro j
  by_cases e : i = j
  · subst e
    rcases Nat.lt_or_ge i X.length with g | g
    · rw [List.getElem?_set_self (by simp; omega), ow_get g, h]
    · rw [List.getElem?_eq_none (by simp; omega), List.getElem?_eq_none g]
  · rw [List.getElem?_set_ne e, List.getElem?_set_ne e, List.getElem?_set_ne e]

/-! ### The walk -/
set_option maxRecDepth 20000 in
set_option maxHeartbeats 2000000 in
theorem walk (n : Int) (al : Option Addr) (ll cl : Nat) (l : List Ac) (owner : Int) (w : World) (hn : (Lit.int .u8 n).wf = true) (hl : Acts w w.heap.size al ll l) (hcl : ll ≤ cl) (howner : (Lit.int .u16 owner).wf = true) :
    Calls Try.prog 5 #[.int .u8 n, .slice al ll cl, .int .u16 owner] w fun e w' => e = .returned (.bool true) ∧ Below w.heap.size w w' := by
  have hmax := hl.max
  have A := Lib.hid (awake12_any w)
  have n12 := wfu8 hn
  have o12 := wfu16 howner
  obtain ⟨K, hK⟩ : ∃ K : Nat, 1 + n % 12 = (K : Int) := ⟨(1 + n % 12).toNat, by omega⟩
  have hK1 : 1 ≤ K := by omega
  have hK2 : K ≤ 12 := by omega
  have hm : n.tmod 12 = (K : Int) - 1 := by rw [Int.tmod_eq_emod_of_nonneg (by omega)]; omega
  have hm2 : n % 12 = (K : Int) - 1 := by omega
  have wK : IntKind.i64.wrap (1 + ((K : Int) - 1)) = (K : Int) := by rw [IntWalk.i64_in _ (by omega)]; omega
  have wn : IntKind.i64.wrap n = n := IntWalk.i64_in _ (by omega)
  have wo : IntKind.i64.wrap owner = owner := IntWalk.i64_in _ (by omega)
  have wo1 : IntKind.i64.wrap (owner + 1) = owner + 1 := IntWalk.i64_in _ (by omega)
  have HN := Lib.hid (pageNew_ok (K : Int) (by omega) (by omega))
  have HNR := Lib.hid (refPageNew_ok K (by omega) (by omega))
  clear hK hn n12 howner
  go_enter Try.func5, Try.ntmps5
  go_wp2_with fail
  refine A.out.mono ?_
  rintro e w0 ⟨rfl, h0⟩
  have H0 := Lib.hid h0
  clear h0
  by_cases hll : 40 < ll
  · have d1 : decide ((40 : Int) < (ll : Int)) = true := by simp; omega
    go_wp2
    go_ret
    exact ⟨rfl, H0.out⟩
  have d1 : decide ((40 : Int) < (ll : Int)) = false := by simp; omega
  go_wp2_with fail
  refine (HN.out w0).mono ?_
  rintro e w1 ⟨p, b, m, rfl, r1, b1, lp, lb, lm⟩
  rw [Int.toNat_natCast] at r1
  have B1 := Lib.hid (belowT H0.out b1)
  have R1' := Lib.hid r1
  have HP : Hid (w.heap.size ≤ b ∧ w.heap.size ≤ m) := Lib.hid (by have := H0.out.size; omega)
  clear r1 b1 HN A hm hm2 wK wn lp lb lm H0
  go_wp2_with fail
  refine (HNR.out w1).mono ?_
  rintro e w2 ⟨g, c, rfl, s2, l2, b2⟩
  have S2 : Hid (Ps w p b m g K (List.replicate K (-1)) w2) := Lib.hid ⟨belowT B1.out b2, R1'.out.below b2, s2, by
    obtain ⟨g', o, e, hg, _⟩ := s2.head hK1
    injection e with e
    injection e with e1 e2
    subst e1
    exact hg, by have := R1'.out.bm.size; omega, by have := R1'.out.om.lt; omega⟩
  clear s2 b2 l2 HNR R1' B1
  go_wp2
  go_loopw [11, 13] (fun x i wr => ∃ (k g c : Nat) (X : List Int), k ≤ ll ∧ i = .int .i64 k ∧ x = .slice (some ⟨g, 0, none⟩) K c ∧ Hid (Ps w p b m g K X wr)) (fun _ i _ => ll - (intOf i).toNat)
  case atStart => exact ⟨0, g, c, _, by omega, rfl, rfl, S2⟩
  case round =>
    obtain ⟨k, g, c, X, hk, rfl, rfl, HS⟩ := hrel
    clear S2
    by_cases hlt : k < ll
    · have dk : decide ((k : Int) < (ll : Int)) = true := by simp; omega
      have U1 := Lib.hid (hl.below HS.out.below)
      obtain ⟨b0, o0, rfl, hb0, hc0⟩ := U1.out.head (by omega)
      obtain ⟨u, hu, hfit⟩ := U1.out.at_ hlt
      have k0 : wr.cell? ⟨b0, o0 + k * 3, none⟩ = some (.int .u8 u.kind) := hc0 k u hu 0 _ rfl
      have k1 : wr.cell? ⟨b0, o0 + k * 3 + 1, none⟩ = some (.int .i64 u.at_) := hc0 k u hu 1 _ rfl
      have k2 : wr.cell? ⟨b0, o0 + k * 3 + 2, none⟩ = some (.int .i64 u.own) := hc0 k u hu 2 _ rfl
      have HB0 := Lib.hid hb0
      obtain ⟨kind, at_, own⟩ := u
      simp only at k0 k1 k2
      have HC := Lib.hid (do12_any HS.out.pm kind at_ own hfit)
      have HC2 : Hid (∀ v, Ints v v.heap.size (some ⟨g, 0, none⟩) K X → Calls Try.prog 12 #[.slice (some ⟨g, 0, none⟩) K c, .agg #[.int .u8 kind, .int .i64 at_, .int .i64 own]] v (RefP3 K g (actX X ⟨kind, at_, own⟩) (actA X ⟨kind, at_, own⟩) (actE X ⟨kind, at_, own⟩) v)) := Lib.hid (fun v hv => refDo_any hv (by omega) kind at_ own hfit)
      clear hc0 hu hb0 U1 hfit
      generalize actE X ⟨kind, at_, own⟩ = z at HC HC2
      generalize actA X ⟨kind, at_, own⟩ = y at HC HC2
      generalize actX X ⟨kind, at_, own⟩ = X' at HC HC2
      go_wp2_with fail
      refine HC.out.mono ?_
      rintro e w4 ⟨rfl, r4, b4⟩
      have R4 := Lib.hid r4
      have B4 := Lib.hid b4
      have KB : Hid (Below w.heap.size wr w4) := Lib.hid (b4.below HS.out.below.size (fun i hi q => by have := HP.out; omega))
      have k0' := (KB.out.cell (p := ⟨b0, o0 + k * 3, none⟩) HB0.out).trans k0
      have k1' := (KB.out.cell (p := ⟨b0, o0 + k * 3 + 1, none⟩) HB0.out).trans k1
      have k2' := (KB.out.cell (p := ⟨b0, o0 + k * 3 + 2, none⟩) HB0.out).trans k2
      have HC3 := Lib.hid (HC2.out w4 (HS.out.half b4))
      clear r4 b4 HC HC2 k0 k1 k2 KB
      go_wp2_with fail
      refine HC3.out.mono ?_
      rintro e w5 ⟨g', c', rfl, s5, q5, b5⟩
      have SN := Lib.hid (HS.out.next HP.out.1 HP.out.2 R4.out B4.out hK1 s5 q5 b5)
      clear s5 q5 b5 HC3 k0' k1' k2' R4 B4 HS
      go_wp2
      go_roundw
      case rel => exact ⟨k + 1, g', c', X', by omega, by go_num, rfl, SN⟩
      case measure => simp [intOf]; omega
    · have dk : decide ((k : Int) < (ll : Int)) = false := by simp; omega
      rcases hole_cases X with ⟨hf, _⟩ | ⟨i, hf, hi, hx, _⟩
      · have HC : Hid (Calls Try.prog 18 #[.pointer (some ⟨p, 0, none⟩), .int .i64 owner] wr (PgEnds (.tuple #[.int .i64 0, .int .i64 5]) p b m X wr)) := Lib.hid (by
          have := pageTake_any HS.out.pm owner (by omega)
          obtain ⟨e1, e2, e3⟩ := take_full (o := owner) (by omega) hf
          rwa [e1, e2, e3] at this)
        go_wp2_with fail
        refine HC.out.mono ?_
        rintro e w4 ⟨rfl, r4, b4⟩
        have HI := Lib.hid (HS.out.half b4)
        have R4 := Lib.hid r4
        have HB : Hid (Below w.heap.size w w4) := Lib.hid (HS.out.below.trans (b4.below HS.out.below.size (fun i hi q => by have := HP.out; omega)))
        have L1 : Hid (Calls Try.prog 15 #[.pointer (some ⟨p, 0, none⟩)] w4 (BB true w4)) := Lib.hid (by have := full_any r4; rwa [hf] at this)
        clear r4 b4 HC HS hf
        go_wp2_with fail
        refine L1.out.mono ?_
        rintro e w5 ⟨rfl, b5⟩
        have HA := Lib.hid (same12_any (c := c) (R4.out.below b5) (HI.out.on b5))
        have HB5 := Lib.hid (belowT HB.out b5)
        clear b5 L1 HB
        go_wp2_with fail
        refine HA.out.mono ?_
        rintro e w6 ⟨rfl, b6⟩
        have HB6 := Lib.hid (belowT HB5.out b6)
        clear b6 HA HB5
        go_wp2
        go_ret
        exact ⟨rfl, HB6.out⟩
      · have l12 := HS.out.pm.l2
        have HX := Lib.hid hx
        have HC : Hid (Calls Try.prog 18 #[.pointer (some ⟨p, 0, none⟩), .int .i64 owner] wr (PgEnds (.tuple #[.int .i64 (i : Int), .int .i64 0]) p b m (X.set i owner) wr)) := Lib.hid (by
          have := pageTake_any HS.out.pm owner (by omega)
          obtain ⟨e1, e2, e3⟩ := take_at (o := owner) (by omega) hf
          rwa [e1, e2, e3] at this)
        clear hf hx
        go_wp2_with fail
        refine HC.out.mono ?_
        rintro e w4 ⟨rfl, r4, b4⟩
        have C2 : Hid (Calls Try.prog 19 #[.pointer (some ⟨p, 0, none⟩), .int .i64 (i : Int), .int .i64 (owner + 1)] w4 (PgEnds (.int .i64 0) p b m ((X.set i owner).set i (owner + 1)) w4)) := Lib.hid (by
          have := pageOwn_any r4 (i : Int) (owner + 1) (by omega)
          obtain ⟨e1, e2⟩ := own_at (X := X.set i owner) (k := i) (o := owner + 1) (by rw [List.length_set]; exact hi) (by omega) (by rw [ow_set hi, if_pos rfl]; omega)
          rwa [e1, e2] at this)
        have B4 := Lib.hid b4
        clear r4 b4 HC
        go_wp2_with fail
        refine C2.out.mono ?_
        rintro e w5 ⟨rfl, r5, b5⟩
        have hi2 : i < (X.set i owner).length := by rw [List.length_set]; exact hi
        have C3 : Hid (Calls Try.prog 20 #[.pointer (some ⟨p, 0, none⟩), .int .i64 (i : Int)] w5 (R1 (owner + 1) w5)) := Lib.hid (by
          have := owner_any r5 (i : Int) (by omega)
          rwa [ownerOf_nat (by rw [List.length_set]; exact hi2), ow_set hi2, if_pos rfl] at this)
        have C4 : Hid (Calls Try.prog 21 #[.pointer (some ⟨p, 0, none⟩), .int .i64 (i : Int)] w5 (PgEnds (.int .i64 0) p b m X w5)) := Lib.hid (by
          have := pageGive_any r5 (i : Int)
          obtain ⟨e1, e2⟩ := give_at (X := (X.set i owner).set i (owner + 1)) (k := i) (by rw [List.length_set]; exact hi2) (by rw [ow_set hi2, if_pos rfl]; omega)
          rwa [e1, e2, set_back HX.out] at this)
        have B5 := Lib.hid (B4.out.trans b5)
        clear r5 b5 C2 B4 hi2
        go_wp2_with fail
        refine C3.out.mono ?_
        rintro e w6 ⟨rfl, rfl⟩
        go_wp2_with fail
        refine C4.out.mono ?_
        rintro e w6 ⟨rfl, r6, b6⟩
        have B6 := B5.out.trans b6
        have HI := Lib.hid (HS.out.half B6)
        have HB : Hid (Below w.heap.size w w6) := Lib.hid (HS.out.below.trans (B6.below HS.out.below.size (fun i hi q => by have := HP.out; omega)))
        have HA := Lib.hid (same12_any (c := c) r6 HI.out)
        have e1 : ((owner + 1) == owner + 1) = true := by simp
        clear r6 b6 B6 B5 C3 C4 HS HX
        go_wp2_with fail
        refine HA.out.mono ?_
        rintro e w7 ⟨rfl, b7⟩
        have HB7 := Lib.hid (belowT HB.out b7)
        clear b7 HA HB
        go_wp2
        go_ret
        exact ⟨rfl, HB7.out⟩

/-! ### The frame of the row -/
set_option maxRecDepth 100000 in
theorem lifted (os : Os) (started : os.Started) (H : Type) (enc : TypeId × Value → H) :
    ReturnsInHanded {} Try.checked os 5 .any (Rows.pageBackSpec.pre6 enc Try.prog Try.f5 Rows.pageBackRow.domain false) (Rows.pageBackSpec.post enc Try.prog Try.f5 false true false false) := by
  refine returnsInHanded_of_change (C := Try.checked) own started (by kernel_rfl) Try.func5
    (ChangeSpec.witness6 (enc := enc) (C := Try.checked) false ⟨#[], #[.int .u8 0, .slice none 0 0, .int .u16 0], []⟩ 8 (by kernel_rfl) (by kernel_rfl) (by kernel_rfl) (by kernel_rfl)) ?_
  intro W base args ds gs before hval0 hW hcnd _
  have hval : ∀ (j : Nat) t v, Try.f5.params[j]? = some t → args[j]? = some v → Value.okWide Try.prog W .any base t v := hval0
  have hW' := hW
  obtain ⟨p, q, hA0, hV, rfl, hfz, hnd⟩ := hW
  have hA : DataW.TrodAll enc Try.prog W 0 (fun _ => true) true Try.f5.params.toList args.toList ds p := hA0
  rw [Try.params5] at hA hval
  obtain ⟨v0, vs0, d0, ds0, p0, q0, hargs, rfl, rfl, h0, r0⟩ := trodAll_cons hA
  obtain ⟨v1, vs1, d1, ds1, p1, q1, rfl, rfl, rfl, h1, r1⟩ := trodAll_cons r0
  obtain ⟨v2, vs2, d2, ds2, p2, q2, rfl, rfl, rfl, h2, r2⟩ := trodAll_cons r1
  obtain ⟨rfl, rfl, rfl⟩ := trodAll_nil r2
  obtain rfl : args = #[v0, v1, v2] := by cases args; simp_all
  obtain ⟨rfl, rfl⟩ := trodVars_none hV
  obtain ⟨n, rfl, rfl, rfl, hn⟩ := open_int Try.underlying5 (hval 0 5 v0 rfl rfl) h0
  have k1 := h1
  have lt1 : ∀ x ∈ p1, x.block < W.heap.size := by obtain ⟨m, hm⟩ := k1; exact DataW.trod_lt m _ _ _ hm
  obtain ⟨al, ll, cl, rfl⟩ := okWide_slice Try.underlying22 (hval 1 22 v1 rfl rfl)
  obtain ⟨l, hcl, hl⟩ : ∃ xs, ll ≤ cl ∧ Acts W W.heap.size al ll xs := by
    obtain ⟨fuel, hf⟩ := h1
    obtain ⟨a, l, c, xs, e, hl, hi⟩ := acts_field (by simpa [Value.cells] using hf)
    injection e with e1 e2 e3
    subst e1 e2 e3
    exact ⟨xs, hl, hi⟩
  obtain ⟨owner, rfl, rfl, rfl, howner⟩ := open_int Try.underlying41 (hval 2 41 v2 rfl rfl) h2
  clear hA0 hval0
  refine (walk n al ll cl l owner W hn hl hcl howner).mono fun e W' ⟨he, bel⟩ => ?_
  subst he
  exact ⟨_, rfl, _, _, _, [], _, [], hW', trodAll_mk1 (shut_bool Try.underlying4 _), (trodAll_cons_mk (shut_int Try.underlying5 hn) (trodAll_cons_mk (Below.trod laidOut (by kernel_rfl) (of_decide_eq_true (by kernel_rfl)) k1 bel lt1) (trodAll_cons_mk (shut_int Try.underlying41 howner) trodAll_mk0))), rfl, bel.frame _, fun h => by cases h⟩

theorem over : Rows.pageBackRow.holds Try.pinned (OpenSpec.ofChange Rows.pageBackSpec) :=
  OpenClaim.holds_of_wide 5 Try.f5 rfl rfl rfl rfl rfl rfl rfl ⟨rfl, rfl, rfl, rfl, rfl⟩ rfl rfl rfl rfl rfl (by kernel_rfl) Try.func5 (by kernel_rfl)
    (of_decide_eq_true (by kernel_rfl)) (by unfold Func.isWrapper; first | (rw [if_pos (by decide +kernel)]; kernel_rfl) | (rw [if_neg (by decide +kernel)]; exact ⟨rfl, rfl⟩))
    (fun os started H enc _ => lifted os started H enc)

theorem proved : Rows.PageBackSaid := over
#print axioms proved
end Go.Proofs.Ytglaohclbepmfaa.pageBack
