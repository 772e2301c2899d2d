/-
  almerylaw01.UnitHolds returns true for every two numbers of 32 bits, and all memory that was there is as it was. No condition.
-/
import Derived.Test.YtnkbaombdlbkdaaRows
import Derived.WalkKit
import Derived.ProofKit
import Derived.OpenShut
import Derived.Test.YtnkbaombdlbkdaaUnitRef
namespace Go.Proofs.Ytnkbaombdlbkdaa.unitHolds
open Go.ChangeShapes Go.WideShapes Go.ChangeAt Go.RowKit
set_option linter.unusedVariables false      -- a walk need not use every 'w<i>' (that an integer argument fits its kind)

theorem own : ownKnob Try.prog.godebug = none := by kernel_rfl

/-- All that the law asks, of two numbers up to 2^32. -/
theorem facts {n b : Int} (hn : 1 ≤ n) (hb : 1 ≤ b) (h1 : n ≤ 4294967296) (h2 : b ≤ 4294967296) :
    n ≤ upTo n b ∧ upTo n b - b < n ∧ upTo n b ≤ 8589934592 ∧ (upTo n b % b == 0) = true ∧ spare n b < b ∧ (spare n b == upTo n b - n) = true
      ∧ 0 ≤ many n b * b ∧ many n b * b ≤ 8589934592 ∧ (many n b * b == upTo n b) = true := by
  obtain ⟨f1, f2, f3, f4⟩ := many_facts hn hb
  have hu : upTo n b = many n b * b := upTo_pos (by omega)
  have hs : spare n b = many n b * b - n := by
    unfold spare
    rw [hu, if_neg (by omega)]
  rw [hs, hu]
  refine ⟨by omega, by omega, by omega, by simp, by omega, by simp, by omega, by omega, by simp⟩

/-! ### The walk -/
theorem walk (a0 : Int) (a1 : Int) (w0 : (Lit.int .u32 a0).wf = true) (w1 : (Lit.int .u32 a1).wf = true) (w : World) :
    Calls Try.prog 5 #[.int .u32 a0, .int .u32 a1] w fun e w' => e = .returned (.bool true) ∧ Grown w w' := by
  obtain ⟨b1, b2⟩ := bounds_u32 w0
  obtain ⟨c1, c2⟩ := bounds_u32 w1
  obtain ⟨g1, g2, g3, g4, g5, g6, g7, g8, g9⟩ := facts (n := 1 + a0) (b := 1 + a1) (by omega) (by omega) (by omega) (by omega)
  go_enter Try.func5, Try.ntmps5
  go_wp2_with fail
  refine (awake_any w).mono ?_
  rintro e v1 ⟨rfl, f1⟩
  go_wp2_with fail
  refine (up_any (1 + a0) (1 + a1) v1 (by omega) (by omega)).mono ?_
  rintro e v2 ⟨rfl, f2⟩
  go_wp2_with fail
  refine (spare_any (1 + a0) (1 + a1) v2 (by omega) (by omega)).mono ?_
  rintro e v3 ⟨rfl, f3⟩
  go_wp2_with fail
  refine (spare_any (1 + a0) (1 + a1) v3 (by omega) (by omega)).mono ?_
  rintro e v4 ⟨rfl, f4⟩
  go_wp2_with fail
  refine (many_any (1 + a0) (1 + a1) v4 (by omega)).mono ?_
  rintro e v5 ⟨rfl, f5⟩
  go_wp2
  go_ret
  exact ⟨rfl, ((((f1.trans f2).trans f3).trans f4).trans f5).grown⟩

/-! ### The frame of the row -/
set_option maxRecDepth 100000 in
theorem lifted (os : Os) (started : os.Started) (H : Type) (enc : TypeId × Value → H) :
    ReturnsInHanded {} Try.checked os 5 .any (Rows.unitHoldsSpec.pre6 enc Try.prog Try.f5 Rows.unitHoldsRow.domain false) (Rows.unitHoldsSpec.post enc Try.prog Try.f5 false true false false) := by
  refine returnsInHanded_of_change (C := Try.checked) own started (by kernel_rfl) Try.func5
    (ChangeSpec.witness6 (enc := enc) (C := Try.checked) false ⟨#[], #[.int .u32 0, .int .u32 0], []⟩ 8 (by kernel_rfl) (by kernel_rfl) (by kernel_rfl) (by kernel_rfl)) ?_
  intro W base args ds gs before hval0 hW hcnd _
  have hval : ∀ (j : Nat) t v, Try.f5.params[j]? = some t → args[j]? = some v → Value.okWide Try.prog W .any base t v := hval0
  have hW' := hW
  obtain ⟨p, q, hA0, hV, rfl, hfz, hnd⟩ := hW
  have hA : DataW.TrodAll enc Try.prog W 0 (fun _ => true) true Try.f5.params.toList args.toList ds p := hA0
  rw [Try.params5] at hA hval
  obtain ⟨v0, vs0, d0, ds0, p0, q0, hargs, rfl, rfl, h0, r0⟩ := trodAll_cons hA
  obtain ⟨v1, vs1, d1, ds1, p1, q1, rfl, rfl, rfl, h1, r1⟩ := trodAll_cons r0
  obtain ⟨rfl, rfl, rfl⟩ := trodAll_nil r1
  obtain rfl : args = #[v0, v1] := by cases args; simp_all
  obtain ⟨rfl, rfl⟩ := trodVars_none hV
  obtain ⟨a0, rfl, rfl, rfl, w0⟩ := open_int Try.underlying25 (hval 0 25 v0 rfl rfl) h0
  obtain ⟨a1, rfl, rfl, rfl, w1⟩ := open_int Try.underlying25 (hval 1 25 v1 rfl rfl) h1
  clear hA0 hval0
  simp only [List.append_nil] at hW'
  refine (walk a0 a1 w0 w1 W).mono fun e W' ⟨he, hg⟩ => ?_
  subst he
  exact ⟨_, rfl, post_of_same (pa := []) (pv := []) hW' (fun _ _ _ => (trodAll_cons_mk (shut_bool Try.underlying4 _) trodAll_mk0)) (fun sp _ => (trodAll_cons_mk (shut_int Try.underlying25 w0) (trodAll_cons_mk (shut_int Try.underlying25 w1) trodAll_mk0))) (fun _ _ => rfl) rfl
    (hg.frame _) hg.2.1 (ok_one (by kernel_rfl) rfl (okWide_bool_mk Try.underlying4 _))⟩

theorem over : Rows.unitHoldsRow.holds Try.pinned (OpenSpec.ofChange Rows.unitHoldsSpec) :=
  OpenClaim.holds_of_wide 5 Try.f5 rfl rfl rfl rfl rfl rfl rfl ⟨rfl, rfl, rfl, rfl, rfl⟩ rfl rfl rfl rfl rfl (by kernel_rfl) Try.func5 (by kernel_rfl)
    (of_decide_eq_true (by kernel_rfl)) (by unfold Func.isWrapper; first | (rw [if_pos (by decide +kernel)]; kernel_rfl) | (rw [if_neg (by decide +kernel)]; exact ⟨rfl, rfl⟩))
    (fun os started H enc _ => lifted os started H enc)

theorem proved : Rows.UnitHoldsSaid :=
  over
#print axioms proved
end Go.Proofs.Ytnkbaombdlbkdaa.unitHolds
