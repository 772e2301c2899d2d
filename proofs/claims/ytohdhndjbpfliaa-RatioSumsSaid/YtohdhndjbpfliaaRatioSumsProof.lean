/-
  RatioSums: whatever floats and whatever one more come in, the law returns true, and the input reads behind the call as it did.
-/
import Derived.Test.YtohdhndjbpfliaaRows
import Derived.WalkKit
import Derived.ProofKit
import Derived.OpenShut
import Derived.Test.YtohdhndjbpfliaaRatioAwake
import Derived.Test.YtohdhndjbpfliaaRatioApp
import Derived.ShutString
import Derived.ChangeOld
import Derived.Below
namespace Go.Proofs.Ytohdhndjbpfliaa.ratioSums
open Go.ChangeShapes Go.WideShapes Go.ChangeAt Go.RowKit
open Go.ChangeMaps (open_string shut_string)
set_option linter.unusedVariables false

theorem own : ownKnob Try.prog.godebug = none := by kernel_rfl
theorem laidOut : laidOutB Try.prog = true := by kernel_rfl

/-! ### The walk -/
theorem walk (al : Option Addr) (ll cl : Nat) (l : List Nat) (x : Nat) (w : World) (hl : Floats w w.heap.size al ll l) (hcl : ll ≤ cl) (hx : x < 18446744073709551616) :
    Calls Try.prog 7 #[.slice al ll cl, .float .f64 x] w fun e w' => e = .returned (.bool true) ∧ Below w.heap.size w w' := by
  have hmax := hl.max
  go_enter Try.func7, Try.ntmps7
  go_wp2_with fail
  refine (awake04_any w).mono ?_
  rintro e w0 ⟨rfl, hb⟩
  by_cases h40 : 40 < ll
  · have d : decide ((40 : Int) < (ll : Int)) = true := by simp; omega
    go_wp2
    go_ret
    exact ⟨rfl, hb⟩
  · have d : decide ((40 : Int) < (ll : Int)) = false := by simp; omega
    have h40' : ll ≤ 40 := by omega
    have hF0 := hl.on hb
    have HXS := Lib.hid hl.2.2.1
    go_wp2_with fail
    refine (sum_any al ll cl l _ hF0).mono ?_
    rintro e w1 ⟨v, rfl, hv, hb1⟩
    have hF1 := hF0.on hb1
    have HV := Lib.hid hv
    have HF1 := Lib.hid hF1
    clear hF0 hF1 hv
    go_wp2_with (first
      | (at_builtin
         refine wpList_first HF1.out h40' rfl _ _ rfl rfl rfl ?_
         intro g1 cap1 w2 hown hb2
         have HO := Lib.hid hown
         clear hown)
      | (at_builtin
         refine wpList_second HO.out hb2 h40' HXS.out hx ?_ rfl _ _ rfl rfl rfl ?_
         · rfl
         intro g2 cap2 w3 hF3 hb3))
    have HF3 := Lib.hid hF3
    have HL3 := Lib.hid (HF1.out.on hb3)
    clear hF3
    go_wp2_with fail
    refine (refSum_any al ll cl l _ _ HL3.out).mono ?_
    rintro e w4 ⟨v2, rfl, hv2, d2, rfl⟩
    have s1 := HV.out.same hv2
    go_wp2_with fail
    refine (same_any _ _ _).mono ?_
    rw [s1]
    rintro e w4 ⟨rfl, rfl⟩
    clear s1 hv2
    go_wp2_with fail
    refine (mean_any al ll cl l _ (HL3.out.drewN d2)).mono ?_
    rintro e w4 ⟨v3, rfl, hv3, hb4⟩
    have HL4 := Lib.hid (Floats.on (HL3.out.drewN d2) hb4)
    have HF4 := Lib.hid (Floats.on (HF3.out.drewN d2) hb4)
    go_wp2_with fail
    refine (refMean_any al ll cl l _ _ HL4.out).mono ?_
    rintro e w5 ⟨v4, rfl, hv4, d4, rfl⟩
    have s2 := hv3.same hv4
    go_wp2_with fail
    refine (same_any _ _ _).mono ?_
    rw [s2]
    rintro e w5 ⟨rfl, rfl⟩
    clear s2 hv3 hv4
    go_wp2_with fail
    refine (sum_any _ (ll + 1) cap2 (l ++ [x]) _ (HF4.out.drewN d4)).mono ?_
    rintro e w6 ⟨v5, rfl, hv5, hb6⟩
    obtain ⟨u, d6, hr, hu⟩ := run_arith Try.prog .add (.inl rfl) v x w6
    have s3 : same v5 u = true := by
      rw [sumO_snoc, ← HV.out.plus] at hv5
      exact hv5.same hu
    clear hu hv5
    go_wp2_with fail
    refine (same_any _ _ _).mono ?_
    rw [s3]
    rintro e w7 ⟨rfl, rfl⟩
    go_wp2
    go_ret
    exact ⟨rfl, belowN (belowT (belowN (belowT (belowN (belowT (belowT hb hb1) hb3) d2) hb4) d4) hb6) d6⟩

/-! ### The frame of the row -/
set_option maxRecDepth 100000 in
theorem lifted (os : Os) (started : os.Started) (H : Type) (enc : TypeId × Value → H) :
    ReturnsInHanded {} Try.checked os 7 .any (Rows.ratioSumsSpec.pre6 enc Try.prog Try.f7 Rows.ratioSumsRow.domain false) (Rows.ratioSumsSpec.post enc Try.prog Try.f7 false true false false) := by
  refine returnsInHanded_of_change (C := Try.checked) own started (by kernel_rfl) Try.func7
    (ChangeSpec.witness6 (enc := enc) (C := Try.checked) false ⟨#[], #[.slice none 0 0, .float .f64 0], []⟩ 8 (by kernel_rfl) (by kernel_rfl) (by kernel_rfl) (by kernel_rfl)) ?_
  intro W base args ds gs before hval0 hW hcnd _
  have hval : ∀ (j : Nat) t v, Try.f7.params[j]? = some t → args[j]? = some v → Value.okWide Try.prog W .any base t v := hval0
  have hW' := hW
  obtain ⟨p, q, hA0, hV, rfl, hfz, hnd⟩ := hW
  have hA : DataW.TrodAll enc Try.prog W 0 (fun _ => true) true Try.f7.params.toList args.toList ds p := hA0
  rw [Try.params7] at hA hval
  obtain ⟨v0, vs0, d0, ds0, p0, q0, hargs, rfl, rfl, h0, r0⟩ := trodAll_cons hA
  obtain ⟨v1, vs1, d1, ds1, p1, q1, rfl, rfl, rfl, h1, r1⟩ := trodAll_cons r0
  obtain ⟨rfl, rfl, rfl⟩ := trodAll_nil r1
  obtain rfl : args = #[v0, v1] := by cases args; simp_all
  obtain ⟨rfl, rfl⟩ := trodVars_none hV
  have k0 := h0
  have lt0 : ∀ x ∈ p0, x.block < W.heap.size := by obtain ⟨m, hm⟩ := k0; exact DataW.trod_lt m _ _ _ hm
  obtain ⟨al, ll, cl, rfl⟩ := okWide_slice Try.underlying29 (hval 0 29 v0 rfl rfl)
  obtain ⟨l, hcl, hl⟩ : ∃ xs, ll ≤ cl ∧ Floats W W.heap.size al ll xs := by
    obtain ⟨fuel, hf⟩ := h0
    obtain ⟨a, l, c, xs, e, hl, hi⟩ := floats_field (by simpa [Value.cells] using hf)
    injection e with e1 e2 e3
    subst e1 e2 e3
    exact ⟨xs, hl, hi⟩
  obtain ⟨x, rfl, rfl, rfl, gx⟩ := open_float Try.underlying23 (hval 1 23 v1 rfl rfl) h1
  have hx := wf_f64 gx
  clear hA0 hval0
  refine (walk al ll cl l x W hl hcl hx).mono fun e W' ⟨he, bel⟩ => ?_
  subst he
  exact ⟨_, rfl, _, _, _, [], _, [], hW', trodAll_mk1 (shut_bool Try.underlying4 _), (trodAll_cons_mk (Below.trod laidOut (by kernel_rfl) (of_decide_eq_true (by kernel_rfl)) k0 bel lt0) (trodAll_cons_mk (shut_float Try.underlying23 gx) trodAll_mk0)), rfl, bel.frame _, fun h => by cases h⟩

theorem over : Rows.ratioSumsRow.holds Try.pinned (OpenSpec.ofChange Rows.ratioSumsSpec) :=
  OpenClaim.holds_of_wide 7 Try.f7 rfl rfl rfl rfl rfl rfl rfl ⟨rfl, rfl, rfl, rfl, rfl⟩ rfl rfl rfl rfl rfl (by kernel_rfl) Try.func7 (by kernel_rfl)
    (of_decide_eq_true (by kernel_rfl)) (by unfold Func.isWrapper; first | (rw [if_pos (by decide +kernel)]; kernel_rfl) | (rw [if_neg (by decide +kernel)]; exact ⟨rfl, rfl⟩))
    (fun os started H enc _ => lifted os started H enc)

theorem proved : Rows.RatioSumsSaid := over
#print axioms proved
end Go.Proofs.Ytohdhndjbpfliaa.ratioSums
