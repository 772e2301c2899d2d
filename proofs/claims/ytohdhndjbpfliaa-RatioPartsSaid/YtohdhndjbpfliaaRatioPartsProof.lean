/-
  RatioParts: whatever two ints come in, the law returns true, and the input reads behind the call as it did.
-/
import Derived.Test.YtohdhndjbpfliaaRows
import Derived.WalkKit
import Derived.ProofKit
import Derived.OpenShut
import Derived.Test.YtohdhndjbpfliaaRatioAwake
import Derived.Test.YtohdhndjbpfliaaRatioPart
import Derived.ShutString
import Derived.ChangeOld
import Derived.Below
namespace Go.Proofs.Ytohdhndjbpfliaa.ratioParts
open Go.ChangeShapes Go.WideShapes Go.ChangeAt Go.RowKit
open Go.ChangeMaps (open_string shut_string)
set_option linter.unusedVariables false

theorem own : ownKnob Try.prog.godebug = none := by kernel_rfl
theorem laidOut : laidOutB Try.prog = true := by kernel_rfl

theorem fit {x : Int} (h : (Lit.int .i64 x).wf = true) : -9223372036854775808 ≤ x ∧ x ≤ 9223372036854775807 := by
  simpa [Lit.wf, IntKind.min, IntKind.max, IntKind.signed, IntKind.bits] using h

/-! ### The walk -/
theorem walk (a : Int) (b : Int) (w : World) (ha : (Lit.int .i64 a).wf = true) (hb : (Lit.int .i64 b).wf = true) :
    Calls Try.prog 3 #[.int .i64 a, .int .i64 b] w fun e w' => e = .returned (.bool true) ∧ Below w.heap.size w w' := by
  obtain ⟨a1, a2⟩ := fit ha
  obtain ⟨b1, b2⟩ := fit hb
  have HS := Lib.hid (part_some a1 a2 b1 b2)
  have HN := Lib.hid (fun (h : 1 ≤ b) (v : Nat) (hv : Rep (part a b) v) => part_neg a1 a2 h b2 hv)
  go_enter Try.func3, Try.ntmps3
  go_wp2_with fail
  refine (awake04_any w).mono ?_
  rintro e w' ⟨rfl, hbl⟩
  go_wp2_with fail
  refine (part_any a b _).mono ?_
  rintro e w1 ⟨v, rfl, hv, d1, rfl⟩
  go_wp2_with fail
  refine (refPart_any a b _).mono ?_
  rintro e w1 ⟨u, rfl, hu, d2, rfl⟩
  have hs := hv.same hu
  go_wp2_with fail
  refine (same_any v u _).mono ?_
  rw [hs]
  rintro e w1 ⟨rfl, rfl⟩
  have hn : (!nan v) = (a != 0 || b != 0) := by rw [hv.num, HS.out]; simp
  go_wp2_with fail
  refine (num_any v _).mono ?_
  rw [hn]
  rintro e w1 ⟨rfl, rfl⟩
  have hneg := HN.out
  clear HS HN hn hs hu
  by_cases c1 : b < 1
  · have d : decide (b < 1) = true := by simpa using c1
    by_cases a0 : a = 0
    · have q : (a != 0) = false := by simp [a0]
      cases q2 : (b != 0)
      all_goals
        clear a0
        go_wp2
        go_ret
        exact ⟨rfl, belowN hbl _⟩
    · have q : (a != 0) = true := by simp [a0]
      clear a0
      go_wp2
      go_ret
      exact ⟨rfl, belowN hbl _⟩
  · have d : decide (b < 1) = false := by simpa using c1
    have q2 : (b != 0) = true := by simp; omega
    have g := hneg (by omega) v hv
    clear hneg
    by_cases a0 : a = 0
    · have q : (a != 0) = false := by simp [a0]
      clear a0
      go_wp2
      go_ret
      exact ⟨rfl, belowN hbl _⟩
    · have q : (a != 0) = true := by simp [a0]
      clear a0
      go_wp2
      go_ret
      exact ⟨rfl, belowN hbl _⟩

/-! ### The frame of the row -/
set_option maxRecDepth 100000 in
theorem lifted (os : Os) (started : os.Started) (H : Type) (enc : TypeId × Value → H) :
    ReturnsInHanded {} Try.checked os 3 .any (Rows.ratioPartsSpec.pre6 enc Try.prog Try.f3 Rows.ratioPartsRow.domain false) (Rows.ratioPartsSpec.post enc Try.prog Try.f3 false true false false) := by
  refine returnsInHanded_of_change (C := Try.checked) own started (by kernel_rfl) Try.func3
    (ChangeSpec.witness6 (enc := enc) (C := Try.checked) false ⟨#[], #[.int .i64 0, .int .i64 0], []⟩ 8 (by kernel_rfl) (by kernel_rfl) (by kernel_rfl) (by kernel_rfl)) ?_
  intro W base args ds gs before hval0 hW hcnd _
  have hval : ∀ (j : Nat) t v, Try.f3.params[j]? = some t → args[j]? = some v → Value.okWide Try.prog W .any base t v := hval0
  have hW' := hW
  obtain ⟨p, q, hA0, hV, rfl, hfz, hnd⟩ := hW
  have hA : DataW.TrodAll enc Try.prog W 0 (fun _ => true) true Try.f3.params.toList args.toList ds p := hA0
  rw [Try.params3] at hA hval
  obtain ⟨v0, vs0, d0, ds0, p0, q0, hargs, rfl, rfl, h0, r0⟩ := trodAll_cons hA
  obtain ⟨v1, vs1, d1, ds1, p1, q1, rfl, rfl, rfl, h1, r1⟩ := trodAll_cons r0
  obtain ⟨rfl, rfl, rfl⟩ := trodAll_nil r1
  obtain rfl : args = #[v0, v1] := by cases args; simp_all
  obtain ⟨rfl, rfl⟩ := trodVars_none hV
  obtain ⟨a, rfl, rfl, rfl, ha⟩ := open_int Try.underlying3 (hval 0 3 v0 rfl rfl) h0
  obtain ⟨b, rfl, rfl, rfl, hb⟩ := open_int Try.underlying3 (hval 1 3 v1 rfl rfl) h1
  clear hA0 hval0
  refine (walk a b W ha hb).mono fun e W' ⟨he, bel⟩ => ?_
  subst he
  exact ⟨_, rfl, _, _, _, [], _, [], hW', trodAll_mk1 (shut_bool Try.underlying4 _), (trodAll_cons_mk (shut_int Try.underlying3 ha) (trodAll_cons_mk (shut_int Try.underlying3 hb) trodAll_mk0)), rfl, bel.frame _, fun h => by cases h⟩

theorem over : Rows.ratioPartsRow.holds Try.pinned (OpenSpec.ofChange Rows.ratioPartsSpec) :=
  OpenClaim.holds_of_wide 3 Try.f3 rfl rfl rfl rfl rfl rfl rfl ⟨rfl, rfl, rfl, rfl, rfl⟩ rfl rfl rfl rfl rfl (by kernel_rfl) Try.func3 (by kernel_rfl)
    (of_decide_eq_true (by kernel_rfl)) (by unfold Func.isWrapper; first | (rw [if_pos (by decide +kernel)]; kernel_rfl) | (rw [if_neg (by decide +kernel)]; exact ⟨rfl, rfl⟩))
    (fun os started H enc _ => lifted os started H enc)

theorem proved : Rows.RatioPartsSaid := over
#print axioms proved
end Go.Proofs.Ytohdhndjbpfliaa.ratioParts
