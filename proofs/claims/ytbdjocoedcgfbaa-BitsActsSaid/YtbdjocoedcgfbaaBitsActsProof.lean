/-
  BitsActs: whatever is set, or not (60 times at most), of 1 to 200 places: what is wrong, and what is told behind each. No condition.
-/
import Derived.Test.YtbdjocoedcgfbaaRows
import Derived.WalkKit
import Derived.ProofKit
import Derived.OpenShut
import Derived.Test.YtbdjocoedcgfbaaBitsRun
import Derived.Test.YtbdjocoedcgfbaaWf
import Derived.ShutString
import Derived.ChangeOld
import Derived.Below
namespace Go.Proofs.Ytbdjocoedcgfbaa.bitsActs
open Go.ChangeShapes Go.WideShapes Go.ChangeAt Go.RowKit
open Go.ChangeMaps (open_string shut_string)
set_option linter.unusedVariables false

theorem own : ownKnob Try.prog.godebug = none := by kernel_rfl
theorem laidOut : laidOutB Try.prog = true := by kernel_rfl

/-! ### The walk -/
set_option maxRecDepth 20000 in
set_option maxHeartbeats 2000000 in
theorem walk (n : Int) (al : Option Addr) (ll cl : Nat) (l : List Ac) (w : World) (hn : (Lit.int .u8 n).wf = true) (hl : Acts w w.heap.size al ll l) (hcl : ll ≤ cl) :
    Calls Try.prog 3 #[.int .u8 n, .slice al ll cl] w fun e w' => e = .returned (.bool true) ∧ Below w.heap.size w w' := by
  have hmax := hl.max
  have A := Lib.hid (awake11_any w)
  have n12 := wfu8 hn
  obtain ⟨K, hK⟩ : ∃ K : Nat, 1 + n % 200 = (K : Int) := ⟨(1 + n % 200).toNat, by omega⟩
  have hK1 : 1 ≤ K := by omega
  have hK2 : K ≤ 200 := by omega
  have hm : n.tmod 200 = (K : Int) - 1 := by rw [Int.tmod_eq_emod_of_nonneg (by omega)]; omega
  have hm2 : n % 200 = (K : Int) - 1 := by omega
  have wK : IntKind.i64.wrap (1 + ((K : Int) - 1)) = (K : Int) := by rw [IntWalk.i64_in _ (by omega)]; omega
  have wn : IntKind.i64.wrap n = n := IntWalk.i64_in _ (by omega)
  have HN := Lib.hid (new_ok (K : Int) (by omega) (by omega))
  have HNR := Lib.hid (refNew_ok K (by omega) (by omega))
  clear hK hn n12
  go_enter Try.func3, Try.ntmps3
  go_wp2_with fail
  refine A.out.mono ?_
  rintro e w0 ⟨rfl, h0⟩
  have H0 := Lib.hid h0
  clear h0
  by_cases hll : 60 < ll
  · have d1 : decide ((60 : Int) < (ll : Int)) = true := by simp; omega
    go_wp2
    go_ret
    exact ⟨rfl, H0.out⟩
  have d1 : decide ((60 : Int) < (ll : Int)) = false := by simp; omega
  go_wp2_with fail
  refine (HN.out w0).mono ?_
  rintro e w1 ⟨rfl, r1, b1, l1⟩
  rw [Int.toNat_natCast] at r1
  have B1 := Lib.hid (belowT H0.out b1)
  have R1' := Lib.hid r1
  have HP : Hid (w.heap.size ≤ w0.heap.size ∧ w0.heap.size < w1.heap.size) := Lib.hid ⟨H0.out.size, l1⟩
  clear r1 b1 HN A hm hm2 wK wn l1
  generalize w0.heap.size = p at R1' HP ⊢
  clear H0
  go_wp2_with fail
  refine (HNR.out w1).mono ?_
  rintro e w2 ⟨rfl, s2, b2⟩
  have S2 : Hid (Bs w p w1.heap.size K (List.replicate K false) w2) := Lib.hid ⟨belowT B1.out b2, R1'.out.below b2, s2, by have := HP.out; omega, by
    obtain ⟨g, o, e, hg, _⟩ := s2.head hK1
    injection e with e
    injection e with e1 e2
    subst e1
    exact hg⟩
  clear s2 b2 HNR R1' B1
  generalize w1.heap.size = b at S2 ⊢
  go_wp2
  go_loopw [9, 11] (fun x i wr => ∃ (k b c : Nat) (L : List Bool), k ≤ ll ∧ i = .int .i64 k ∧ x = .slice (some ⟨b, 0, none⟩) K c ∧ Hid (Bs w p b K L wr)) (fun _ i _ => ll - (intOf i).toNat)
  case atStart => exact ⟨0, b, K, _, by omega, rfl, rfl, S2⟩
  case round =>
    obtain ⟨k, b, c, L, hk, rfl, rfl, HS⟩ := hrel
    clear S2
    by_cases hlt : k < ll
    · have dk : decide ((k : Int) < (ll : Int)) = true := by simp; omega
      have U1 := Lib.hid (hl.below HS.out.below)
      obtain ⟨b0, o0, rfl, hb0, hc0⟩ := U1.out.head (by omega)
      obtain ⟨u, hu, _⟩ := U1.out.at_ hlt
      have kW : wr.cell? ⟨b0, o0 + k * 2, none⟩ = some (.int .i64 u.at_) ∧ wr.cell? ⟨b0, o0 + k * 2 + 1, none⟩ = some (.bool u.is) := ⟨hc0 k u hu 0 _ rfl, hc0 k u hu 1 _ rfl⟩
      have HB0 := Lib.hid hb0
      obtain ⟨at_, is⟩ := u
      simp only at kW
      have kD := keep2 (belowD (Below.refl w.heap.size wr)) hb0 kW
      have BD := belowD (Below.refl wr.heap.size wr)
      have HC : Hid (∀ v, Below wr.heap.size wr v → Calls Try.prog 11 #[.pointer (some ⟨p, 0, none⟩), .int .i64 at_, .bool is] v (SetEnds p (setL L at_ is) (setE L at_ is) v)) := Lib.hid (fun v hv => set_any (HS.out.grow hv).bm at_ is)
      clear hc0 hu hb0 U1
      have sz : w.heap.size ≤ wr.drew.heap.size := HS.out.below.size
      go_wp2_with fail
      go_region_held3 (fun w' => w'.cell? ⟨b0, o0 + k * 2, none⟩ = some (.int .i64 at_) ∧ w'.cell? ⟨b0, o0 + k * 2 + 1, none⟩ = some (.bool is))
        (first | with_reducible exact kD | with_reducible exact k4 | with_reducible exact kW | go_keep)
        ((go_at_call 11; refine (HC.out _ ?_).mono ?_; exact BD; rintro e w4 ⟨rfl, r4, b4⟩; have k4 := keep2 (b4.one sz HP.out.1) HB0.out kD))
      have hbs : Bools w4 w4.heap.size (some ⟨b, 0, none⟩) K L := ((HS.out.grow BD).bs.butAt b4 (Nat.le_refl _) HS.out.ne).more b4.size
      have HC2 : Hid (∀ v, Below w4.heap.size w4 v → Calls Try.prog 12 #[.slice (some ⟨b, 0, none⟩) K c, .int .i64 at_, .bool is] v (RefSet K b (setL L at_ is) (setE L at_ is) v)) := Lib.hid (fun v hv => refSet_any (hbs.on hv) (by omega) at_ is)
      have HG := Lib.hid (HS.out.grow BD)
      have R4 := Lib.hid r4
      have B4 := Lib.hid b4
      have kE := keep2 (belowD (Below.refl w4.heap.size w4)) (Nat.lt_of_lt_of_le HB0.out (Nat.le_trans sz b4.size)) k4
      have BE := belowD (Below.refl w4.heap.size w4)
      have lt4 : Hid (b0 < w4.heap.size) := Lib.hid (Nat.lt_of_lt_of_le HB0.out (Nat.le_trans sz b4.size))
      clear hbs r4 b4 kD kW BD HS HC sz
      generalize setE L at_ is = z at HC2 ⊢
      generalize setL L at_ is = L' at HC2 R4
      go_wp2_with fail
      go_region_held3 (fun w' => w'.cell? ⟨b0, o0 + k * 2, none⟩ = some (.int .i64 at_) ∧ w'.cell? ⟨b0, o0 + k * 2 + 1, none⟩ = some (.bool is))
        (first | with_reducible exact kE | with_reducible exact k5 | with_reducible exact k4 | go_keep)
        ((go_at_call 12; refine (HC2.out _ ?_).mono ?_; exact BE; rintro e w5 ⟨b', c', rfl, s5, q5, b5⟩; have k5 := keep2 b5 lt4.out kE))
      have SN := Lib.hid (HG.out.next HP.out.1 R4.out B4.out hK1 s5 (by rcases q5 with q | q; exact Or.inl q; exact Or.inr q) (belowT BE b5))
      have k50 := k5.1
      have e1 : (z != z) = false := by simp
      clear s5 q5 b5 kE k4 HC2 BE R4 B4 HG k5
      have HA1 := Lib.hid (fun d => same11_any (c := c') (SN.out.bm.drewN d) (SN.out.bs.on (belowN (Below.refl _ _) d)) (by omega))
      have HA2 := Lib.hid (fun d => has_any (SN.out.bm.drewN d) at_)
      have HA3 := Lib.hid (fun d => refHas_any (c := c') (SN.out.bs.on (belowN (Below.refl w5.heap.size w5) d)) at_)
      generalize hasOf L' at_ = y at HA2 HA3
      have e2 : (y != y) = false := by simp
      go_wp2_with fail
      go_quiet ((first
        | (go_at_call 13; exact quiet1 (HA1.out _))
        | (go_at_call 14; exact quietQ (HA2.out _))
        | (go_at_call 15; exact quiet1 (HA3.out _))))
      clear k50
      go_wp2
      go_roundw
      case rel => exact ⟨k + 1, b', c', L', by omega, by go_num, rfl, Lib.hid (SN.out.grow (belowN (Below.refl _ _) _))⟩
      case measure => simp [intOf]; omega
    · have dk : decide ((k : Int) < (ll : Int)) = false := by simp; omega
      have HA := Lib.hid (same11_any (c := c) HS.out.bm HS.out.bs (by omega))
      have HB := Lib.hid HS.out.below
      clear HS
      go_wp2_with fail
      refine HA.out.mono ?_
      rintro e w8 ⟨rfl, rfl⟩
      go_wp2
      go_ret
      exact ⟨rfl, HB.out⟩

/-! ### The frame of the row -/
set_option maxRecDepth 100000 in
theorem lifted (os : Os) (started : os.Started) (H : Type) (enc : TypeId × Value → H) :
    ReturnsInHanded {} Try.checked os 3 .any (Rows.bitsActsSpec.pre6 enc Try.prog Try.f3 Rows.bitsActsRow.domain false) (Rows.bitsActsSpec.post enc Try.prog Try.f3 false true false false) := by
  refine returnsInHanded_of_change (C := Try.checked) own started (by kernel_rfl) Try.func3
    (ChangeSpec.witness6 (enc := enc) (C := Try.checked) false ⟨#[], #[.int .u8 0, .slice none 0 0], []⟩ 8 (by kernel_rfl) (by kernel_rfl) (by kernel_rfl) (by kernel_rfl)) ?_
  intro W base args ds gs before hval0 hW hcnd _
  have hval : ∀ (j : Nat) t v, Try.f3.params[j]? = some t → args[j]? = some v → Value.okWide Try.prog W .any base t v := hval0
  have hW' := hW
  obtain ⟨p, q, hA0, hV, rfl, hfz, hnd⟩ := hW
  have hA : DataW.TrodAll enc Try.prog W 0 (fun _ => true) true Try.f3.params.toList args.toList ds p := hA0
  rw [Try.params3] at hA hval
  obtain ⟨v0, vs0, d0, ds0, p0, q0, hargs, rfl, rfl, h0, r0⟩ := trodAll_cons hA
  obtain ⟨v1, vs1, d1, ds1, p1, q1, rfl, rfl, rfl, h1, r1⟩ := trodAll_cons r0
  obtain ⟨rfl, rfl, rfl⟩ := trodAll_nil r1
  obtain rfl : args = #[v0, v1] := by cases args; simp_all
  obtain ⟨rfl, rfl⟩ := trodVars_none hV
  obtain ⟨n, rfl, rfl, rfl, hn⟩ := open_int Try.underlying5 (hval 0 5 v0 rfl rfl) h0
  have k1 := h1
  have lt1 : ∀ x ∈ p1, x.block < W.heap.size := by obtain ⟨m, hm⟩ := k1; exact DataW.trod_lt m _ _ _ hm
  obtain ⟨al, ll, cl, rfl⟩ := okWide_slice Try.underlying22 (hval 1 22 v1 rfl rfl)
  obtain ⟨l, hcl, hl⟩ : ∃ xs, ll ≤ cl ∧ Acts W W.heap.size al ll xs := by
    obtain ⟨fuel, hf⟩ := h1
    obtain ⟨a, l, c, xs, e, hl, hi⟩ := acts_field (by simpa [Value.cells] using hf)
    injection e with e1 e2 e3
    subst e1 e2 e3
    exact ⟨xs, hl, hi⟩
  clear hA0 hval0
  refine (walk n al ll cl l W hn hl hcl).mono fun e W' ⟨he, bel⟩ => ?_
  subst he
  exact ⟨_, rfl, _, _, _, [], _, [], hW', trodAll_mk1 (shut_bool Try.underlying4 _), (trodAll_cons_mk (shut_int Try.underlying5 hn) (trodAll_cons_mk (Below.trod laidOut (by kernel_rfl) (of_decide_eq_true (by kernel_rfl)) k1 bel lt1) trodAll_mk0)), rfl, bel.frame _, fun h => by cases h⟩

theorem over : Rows.bitsActsRow.holds Try.pinned (OpenSpec.ofChange Rows.bitsActsSpec) :=
  OpenClaim.holds_of_wide 3 Try.f3 rfl rfl rfl rfl rfl rfl rfl ⟨rfl, rfl, rfl, rfl, rfl⟩ rfl rfl rfl rfl rfl (by kernel_rfl) Try.func3 (by kernel_rfl)
    (of_decide_eq_true (by kernel_rfl)) (by unfold Func.isWrapper; first | (rw [if_pos (by decide +kernel)]; kernel_rfl) | (rw [if_neg (by decide +kernel)]; exact ⟨rfl, rfl⟩))
    (fun os started H enc _ => lifted os started H enc)

theorem proved : Rows.BitsActsSaid := over
#print axioms proved
end Go.Proofs.Ytbdjocoedcgfbaa.bitsActs
