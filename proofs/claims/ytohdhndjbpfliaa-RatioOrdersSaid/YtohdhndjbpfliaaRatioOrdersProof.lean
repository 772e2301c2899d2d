/-
  RatioOrders: whatever three floats come in, the law returns true, and the input reads behind the call as it did.
-/
import Derived.Test.YtohdhndjbpfliaaRows
import Derived.WalkKit
import Derived.ProofKit
import Derived.OpenShut
import Derived.Test.YtohdhndjbpfliaaRatioAwake
import Derived.ShutString
import Derived.ChangeOld
import Derived.Below
namespace Go.Proofs.Ytohdhndjbpfliaa.ratioOrders
open Go.ChangeShapes Go.WideShapes Go.ChangeAt Go.RowKit
open Go.ChangeMaps (open_string shut_string)
set_option linter.unusedVariables false

theorem own : ownKnob Try.prog.godebug = none := by kernel_rfl
theorem laidOut : laidOutB Try.prog = true := by kernel_rfl

/-! ### The walk -/
theorem walk (x : Nat) (y : Nat) (z : Nat) (w : World) (hx : x < 18446744073709551616) (hy : y < 18446744073709551616) (hz : z < 18446744073709551616) :
    Calls Try.prog 5 #[.float .f64 x, .float .f64 y, .float .f64 z] w fun e w' => e = .returned (.bool true) ∧ Below w.heap.size w w' := by
  go_enter Try.func5, Try.ntmps5
  go_wp2_with fail
  refine (awake04_any w).mono ?_
  rintro e w' ⟨rfl, hb⟩
  have h1 := @below_iff x y
  have h2 := @below_off x y
  have h3 := @below_iff y z
  have h4 := @below_off y z
  have h5 := @below_iff x z
  have h6 := @below_off x z
  cases e1 : below x y <;> cases e2 : below y z <;> cases e3 : below x z <;> simp only [e1, e2, e3, true_iff, false_iff, Bool.false_eq_true, Bool.true_eq_false] at h1 h2 h3 h4 h5 h6
  all_goals
    first
      | (exfalso; clear e1 e2 e3; omega)
      | (clear h1 h2 h3 h4 h5 h6
         go_wp2_with (first | (go_at_call 13; refine (below_any _ _ _).mono ?_; (first | rw [e1] | rw [e2] | rw [e3]); rintro e w1 ⟨rfl, rfl⟩))
         go_ret
         exact ⟨rfl, hb⟩)

/-! ### The frame of the row -/
set_option maxRecDepth 100000 in
theorem lifted (os : Os) (started : os.Started) (H : Type) (enc : TypeId × Value → H) :
    ReturnsInHanded {} Try.checked os 5 .any (Rows.ratioOrdersSpec.pre6 enc Try.prog Try.f5 Rows.ratioOrdersRow.domain false) (Rows.ratioOrdersSpec.post enc Try.prog Try.f5 false true false false) := by
  refine returnsInHanded_of_change (C := Try.checked) own started (by kernel_rfl) Try.func5
    (ChangeSpec.witness6 (enc := enc) (C := Try.checked) false ⟨#[], #[.float .f64 0, .float .f64 0, .float .f64 0], []⟩ 8 (by kernel_rfl) (by kernel_rfl) (by kernel_rfl) (by kernel_rfl)) ?_
  intro W base args ds gs before hval0 hW hcnd _
  have hval : ∀ (j : Nat) t v, Try.f5.params[j]? = some t → args[j]? = some v → Value.okWide Try.prog W .any base t v := hval0
  have hW' := hW
  obtain ⟨p, q, hA0, hV, rfl, hfz, hnd⟩ := hW
  have hA : DataW.TrodAll enc Try.prog W 0 (fun _ => true) true Try.f5.params.toList args.toList ds p := hA0
  rw [Try.params5] at hA hval
  obtain ⟨v0, vs0, d0, ds0, p0, q0, hargs, rfl, rfl, h0, r0⟩ := trodAll_cons hA
  obtain ⟨v1, vs1, d1, ds1, p1, q1, rfl, rfl, rfl, h1, r1⟩ := trodAll_cons r0
  obtain ⟨v2, vs2, d2, ds2, p2, q2, rfl, rfl, rfl, h2, r2⟩ := trodAll_cons r1
  obtain ⟨rfl, rfl, rfl⟩ := trodAll_nil r2
  obtain rfl : args = #[v0, v1, v2] := by cases args; simp_all
  obtain ⟨rfl, rfl⟩ := trodVars_none hV
  obtain ⟨x, rfl, rfl, rfl, gx⟩ := open_float Try.underlying23 (hval 0 23 v0 rfl rfl) h0
  have hx := wf_f64 gx
  obtain ⟨y, rfl, rfl, rfl, gy⟩ := open_float Try.underlying23 (hval 1 23 v1 rfl rfl) h1
  have hy := wf_f64 gy
  obtain ⟨z, rfl, rfl, rfl, gz⟩ := open_float Try.underlying23 (hval 2 23 v2 rfl rfl) h2
  have hz := wf_f64 gz
  clear hA0 hval0
  refine (walk x y z W hx hy hz).mono fun e W' ⟨he, bel⟩ => ?_
  subst he
  exact ⟨_, rfl, _, _, _, [], _, [], hW', trodAll_mk1 (shut_bool Try.underlying4 _), (trodAll_cons_mk (shut_float Try.underlying23 gx) (trodAll_cons_mk (shut_float Try.underlying23 gy) (trodAll_cons_mk (shut_float Try.underlying23 gz) trodAll_mk0))), rfl, bel.frame _, fun h => by cases h⟩

theorem over : Rows.ratioOrdersRow.holds Try.pinned (OpenSpec.ofChange Rows.ratioOrdersSpec) :=
  OpenClaim.holds_of_wide 5 Try.f5 rfl rfl rfl rfl rfl rfl rfl ⟨rfl, rfl, rfl, rfl, rfl⟩ rfl rfl rfl rfl rfl (by kernel_rfl) Try.func5 (by kernel_rfl)
    (of_decide_eq_true (by kernel_rfl)) (by unfold Func.isWrapper; first | (rw [if_pos (by decide +kernel)]; kernel_rfl) | (rw [if_neg (by decide +kernel)]; exact ⟨rfl, rfl⟩))
    (fun os started H enc _ => lifted os started H enc)

theorem proved : Rows.RatioOrdersSaid := over
#print axioms proved
end Go.Proofs.Ytohdhndjbpfliaa.ratioOrders
