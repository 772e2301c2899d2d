/-
  RatioBelow: whatever two floats come in, the law returns true, and the input reads behind the call as it did.
-/
import Derived.Test.YtohdhndjbpfliaaRows
import Derived.WalkKit
import Derived.ProofKit
import Derived.OpenShut
import Derived.Test.YtohdhndjbpfliaaRatioAwake
import Derived.ShutString
import Derived.ChangeOld
import Derived.Below
namespace Go.Proofs.Ytohdhndjbpfliaa.ratioBelow
open Go.ChangeShapes Go.WideShapes Go.ChangeAt Go.RowKit
open Go.ChangeMaps (open_string shut_string)
set_option linter.unusedVariables false

theorem own : ownKnob Try.prog.godebug = none := by kernel_rfl
theorem laidOut : laidOutB Try.prog = true := by kernel_rfl

/-! ### The walk -/
theorem walk (x : Nat) (y : Nat) (w : World) (hx : x < 18446744073709551616) (hy : y < 18446744073709551616) :
    Calls Try.prog 4 #[.float .f64 x, .float .f64 y] w fun e w' => e = .returned (.bool true) ∧ Below w.heap.size w w' := by
  have h1 := one_below hx hy
  have h2 := both_below x y
  have e4 := self_below x
  go_enter Try.func4, Try.ntmps4
  go_wp2_with fail
  refine (awake04_any w).mono ?_
  rintro e w' ⟨rfl, hb⟩
  cases e1 : below x y <;> cases e2 : below y x <;> cases e3 : same x y <;> simp only [e1, e2, e3, Bool.or_false, Bool.or_true, Bool.and_false, Bool.and_true, Bool.not_true, Bool.not_false, Bool.false_eq_true, Bool.true_eq_false] at h1 h2
  all_goals
    go_wp2_with (first
      | (go_at_call 13; refine (below_any _ _ _).mono ?_; (first | rw [e1] | rw [e2] | rw [e4]); rintro e w1 ⟨rfl, rfl⟩)
      | (go_at_call 14; refine (refBelow_any _ _ _ (by assumption) (by assumption)).mono ?_; (first | rw [e1] | rw [e2]); rintro e w1 ⟨rfl, rfl⟩)
      | (go_at_call 10; refine (same_any _ _ _).mono ?_; rw [e3]; rintro e w1 ⟨rfl, rfl⟩))
    go_ret
    exact ⟨rfl, hb⟩

/-! ### The frame of the row -/
set_option maxRecDepth 100000 in
theorem lifted (os : Os) (started : os.Started) (H : Type) (enc : TypeId × Value → H) :
    ReturnsInHanded {} Try.checked os 4 .any (Rows.ratioBelowSpec.pre6 enc Try.prog Try.f4 Rows.ratioBelowRow.domain false) (Rows.ratioBelowSpec.post enc Try.prog Try.f4 false true false false) := by
  refine returnsInHanded_of_change (C := Try.checked) own started (by kernel_rfl) Try.func4
    (ChangeSpec.witness6 (enc := enc) (C := Try.checked) false ⟨#[], #[.float .f64 0, .float .f64 0], []⟩ 8 (by kernel_rfl) (by kernel_rfl) (by kernel_rfl) (by kernel_rfl)) ?_
  intro W base args ds gs before hval0 hW hcnd _
  have hval : ∀ (j : Nat) t v, Try.f4.params[j]? = some t → args[j]? = some v → Value.okWide Try.prog W .any base t v := hval0
  have hW' := hW
  obtain ⟨p, q, hA0, hV, rfl, hfz, hnd⟩ := hW
  have hA : DataW.TrodAll enc Try.prog W 0 (fun _ => true) true Try.f4.params.toList args.toList ds p := hA0
  rw [Try.params4] at hA hval
  obtain ⟨v0, vs0, d0, ds0, p0, q0, hargs, rfl, rfl, h0, r0⟩ := trodAll_cons hA
  obtain ⟨v1, vs1, d1, ds1, p1, q1, rfl, rfl, rfl, h1, r1⟩ := trodAll_cons r0
  obtain ⟨rfl, rfl, rfl⟩ := trodAll_nil r1
  obtain rfl : args = #[v0, v1] := by cases args; simp_all
  obtain ⟨rfl, rfl⟩ := trodVars_none hV
  obtain ⟨x, rfl, rfl, rfl, gx⟩ := open_float Try.underlying23 (hval 0 23 v0 rfl rfl) h0
  have hx := wf_f64 gx
  obtain ⟨y, rfl, rfl, rfl, gy⟩ := open_float Try.underlying23 (hval 1 23 v1 rfl rfl) h1
  have hy := wf_f64 gy
  clear hA0 hval0
  refine (walk x y W hx hy).mono fun e W' ⟨he, bel⟩ => ?_
  subst he
  exact ⟨_, rfl, _, _, _, [], _, [], hW', trodAll_mk1 (shut_bool Try.underlying4 _), (trodAll_cons_mk (shut_float Try.underlying23 gx) (trodAll_cons_mk (shut_float Try.underlying23 gy) trodAll_mk0)), rfl, bel.frame _, fun h => by cases h⟩

theorem over : Rows.ratioBelowRow.holds Try.pinned (OpenSpec.ofChange Rows.ratioBelowSpec) :=
  OpenClaim.holds_of_wide 4 Try.f4 rfl rfl rfl rfl rfl rfl rfl ⟨rfl, rfl, rfl, rfl, rfl⟩ rfl rfl rfl rfl rfl (by kernel_rfl) Try.func4 (by kernel_rfl)
    (of_decide_eq_true (by kernel_rfl)) (by unfold Func.isWrapper; first | (rw [if_pos (by decide +kernel)]; kernel_rfl) | (rw [if_neg (by decide +kernel)]; exact ⟨rfl, rfl⟩))
    (fun os started H enc _ => lifted os started H enc)

theorem proved : Rows.RatioBelowSaid := over
#print axioms proved
end Go.Proofs.Ytohdhndjbpfliaa.ratioBelow
