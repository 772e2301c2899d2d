/-
  almerylaw01.UnitJoins returns true for every two numbers of 32 bits and every size of 16 bits, and all memory that was there is as it was. No condition.
-/
import Derived.Test.YtnkbaombdlbkdaaRows
import Derived.WalkKit
import Derived.ProofKit
import Derived.OpenShut
import Derived.Test.YtnkbaombdlbkdaaUnitRef
namespace Go.Proofs.Ytnkbaombdlbkdaa.unitJoins
open Go.ChangeShapes Go.WideShapes Go.ChangeAt Go.RowKit
set_option linter.unusedVariables false      -- a walk need not use every 'w<i>' (that an integer argument fits its kind)

theorem own : ownKnob Try.prog.godebug = none := by kernel_rfl

theorem whole_le (x p : Int) (hx : 0 ≤ x) (hp : 1 ≤ p) : whole x p = x / p := by
  unfold whole
  by_cases h : x < 1
  · have : x = 0 := by omega
    subst this
    simp
  · rw [if_neg (by omega)]
/-- The least number whose product with p is not below x. -/
theorem many_le_iff (x p k : Int) (hx : 0 ≤ x) (hp : 1 ≤ p) (hk : 0 ≤ k) : many x p ≤ k ↔ x ≤ k * p := by
  by_cases h : x < 1
  · have hz : x = 0 := by omega
    subst hz
    rw [many_off (.inl h)]
    have : 0 ≤ k * p := Int.mul_nonneg hk (by omega)
    omega
  · obtain ⟨f1, f2, f3, f4⟩ := many_facts (n := x) (b := p) (by omega) hp
    constructor
    · intro g
      have := Int.mul_le_mul_of_nonneg_right g (show 0 ≤ p by omega)
      omega
    · intro g
      by_cases c : many x p ≤ k
      · exact c
      · have : (k + 1) * p ≤ many x p * p := Int.mul_le_mul_of_nonneg_right (by omega) (by omega)
        rw [Int.add_mul, Int.one_mul] at this
        omega
theorem many_nonneg (x p : Int) (hx : 0 ≤ x) (hp : 1 ≤ p) : 0 ≤ many x p ∧ many x p ≤ x := by
  by_cases h : x < 1
  · rw [many_off (.inl h)]; omega
  · have := many_facts (n := x) (b := p) (by omega) hp
    omega
/-- All that the law asks. -/
theorem facts (x y p : Int) (hx : 0 ≤ x) (hy : 0 ≤ y) (hp : 1 ≤ p) :
    many x p ≤ many (x + y) p ∧ many (x + y) p ≤ many x p + many y p ∧ whole x p + whole y p ≤ whole (x + y) p := by
  have nx := (many_nonneg x p hx hp).1
  have ny := (many_nonneg y p hy hp).1
  have ns := (many_nonneg (x + y) p (by omega) hp).1
  have ix := (many_le_iff x p (many x p) hx hp nx).1 (Int.le_refl _)
  have iy := (many_le_iff y p (many y p) hy hp ny).1 (Int.le_refl _)
  have is := (many_le_iff (x + y) p (many (x + y) p) (by omega) hp ns).1 (Int.le_refl _)
  refine ⟨(many_le_iff x p _ hx hp ns).2 (by omega), (many_le_iff (x + y) p _ (by omega) hp (by omega)).2 (by rw [Int.add_mul]; omega), ?_⟩
  rw [whole_le x p hx hp, whole_le y p hy hp, whole_le (x + y) p (by omega) hp, Int.le_ediv_iff_mul_le (by omega), Int.add_mul]
  have := Int.ediv_mul_le x (show p ≠ 0 by omega)
  have := Int.ediv_mul_le y (show p ≠ 0 by omega)
  omega
theorem whole_bd (x p : Int) (hx : 0 ≤ x) (hp : 1 ≤ p) : 0 ≤ whole x p ∧ whole x p ≤ x := by
  rw [whole_le x p hx hp]
  exact ⟨Int.ediv_nonneg hx (by omega), Int.ediv_le_self p hx⟩

/-! ### The walk -/
theorem walk (a0 : Int) (a1 : Int) (a2 : Int) (w0 : (Lit.int .u32 a0).wf = true) (w1 : (Lit.int .u32 a1).wf = true) (w2 : (Lit.int .u16 a2).wf = true) (w : World) :
    Calls Try.prog 7 #[.int .u32 a0, .int .u32 a1, .int .u16 a2] w fun e w' => e = .returned (.bool true) ∧ Grown w w' := by
  obtain ⟨b1, b2⟩ := bounds_u32 w0
  obtain ⟨c1, c2⟩ := bounds_u32 w1
  obtain ⟨d1, d2⟩ := bounds_u16 w2
  obtain ⟨g1, g2, g3⟩ := facts a0 a1 (1 + a2) b1 c1 (by omega)
  obtain ⟨m1, m2⟩ := many_nonneg a0 (1 + a2) b1 (by omega)
  obtain ⟨m3, m4⟩ := many_nonneg a1 (1 + a2) c1 (by omega)
  obtain ⟨n1, n2⟩ := whole_bd a0 (1 + a2) b1 (by omega)
  obtain ⟨n3, n4⟩ := whole_bd a1 (1 + a2) c1 (by omega)
  go_enter Try.func7, Try.ntmps7
  go_wp2_with fail
  refine (awake_any w).mono ?_
  rintro e v1 ⟨rfl, f1⟩
  go_wp2_with fail
  refine (many_any (a0 + a1) (1 + a2) v1 (by omega)).mono ?_
  rintro e v2 ⟨rfl, f2⟩
  go_wp2_with fail
  refine (many_any a0 (1 + a2) v2 (by omega)).mono ?_
  rintro e v3 ⟨rfl, f3⟩
  go_wp2_with fail
  refine (many_any (a0 + a1) (1 + a2) v3 (by omega)).mono ?_
  rintro e v4 ⟨rfl, f4⟩
  go_wp2_with fail
  refine (many_any a0 (1 + a2) v4 (by omega)).mono ?_
  rintro e v5 ⟨rfl, f5⟩
  go_wp2_with fail
  refine (many_any a1 (1 + a2) v5 (by omega)).mono ?_
  rintro e v6 ⟨rfl, f6⟩
  go_wp2_with fail
  refine (whole_any (a0 + a1) (1 + a2) v6 (by omega)).mono ?_
  rintro e v7 ⟨rfl, f7⟩
  go_wp2_with fail
  refine (whole_any a0 (1 + a2) v7 (by omega)).mono ?_
  rintro e v8 ⟨rfl, f8⟩
  go_wp2_with fail
  refine (whole_any a1 (1 + a2) v8 (by omega)).mono ?_
  rintro e v9 ⟨rfl, f9⟩
  go_wp2
  go_ret
  exact ⟨rfl, ((((((((f1.trans f2).trans f3).trans f4).trans f5).trans f6).trans f7).trans f8).trans f9).grown⟩

/-! ### The frame of the row -/
set_option maxRecDepth 100000 in
theorem lifted (os : Os) (started : os.Started) (H : Type) (enc : TypeId × Value → H) :
    ReturnsInHanded {} Try.checked os 7 .any (Rows.unitJoinsSpec.pre6 enc Try.prog Try.f7 Rows.unitJoinsRow.domain false) (Rows.unitJoinsSpec.post enc Try.prog Try.f7 false true false false) := by
  refine returnsInHanded_of_change (C := Try.checked) own started (by kernel_rfl) Try.func7
    (ChangeSpec.witness6 (enc := enc) (C := Try.checked) false ⟨#[], #[.int .u32 0, .int .u32 0, .int .u16 0], []⟩ 8 (by kernel_rfl) (by kernel_rfl) (by kernel_rfl) (by kernel_rfl)) ?_
  intro W base args ds gs before hval0 hW hcnd _
  have hval : ∀ (j : Nat) t v, Try.f7.params[j]? = some t → args[j]? = some v → Value.okWide Try.prog W .any base t v := hval0
  have hW' := hW
  obtain ⟨p, q, hA0, hV, rfl, hfz, hnd⟩ := hW
  have hA : DataW.TrodAll enc Try.prog W 0 (fun _ => true) true Try.f7.params.toList args.toList ds p := hA0
  rw [Try.params7] at hA hval
  obtain ⟨v0, vs0, d0, ds0, p0, q0, hargs, rfl, rfl, h0, r0⟩ := trodAll_cons hA
  obtain ⟨v1, vs1, d1, ds1, p1, q1, rfl, rfl, rfl, h1, r1⟩ := trodAll_cons r0
  obtain ⟨v2, vs2, d2, ds2, p2, q2, rfl, rfl, rfl, h2, r2⟩ := trodAll_cons r1
  obtain ⟨rfl, rfl, rfl⟩ := trodAll_nil r2
  obtain rfl : args = #[v0, v1, v2] := by cases args; simp_all
  obtain ⟨rfl, rfl⟩ := trodVars_none hV
  obtain ⟨a0, rfl, rfl, rfl, w0⟩ := open_int Try.underlying25 (hval 0 25 v0 rfl rfl) h0
  obtain ⟨a1, rfl, rfl, rfl, w1⟩ := open_int Try.underlying25 (hval 1 25 v1 rfl rfl) h1
  obtain ⟨a2, rfl, rfl, rfl, w2⟩ := open_int Try.underlying27 (hval 2 27 v2 rfl rfl) h2
  clear hA0 hval0
  simp only [List.append_nil] at hW'
  refine (walk a0 a1 a2 w0 w1 w2 W).mono fun e W' ⟨he, hg⟩ => ?_
  subst he
  exact ⟨_, rfl, post_of_same (pa := []) (pv := []) hW' (fun _ _ _ => (trodAll_cons_mk (shut_bool Try.underlying4 _) trodAll_mk0)) (fun sp _ => (trodAll_cons_mk (shut_int Try.underlying25 w0) (trodAll_cons_mk (shut_int Try.underlying25 w1) (trodAll_cons_mk (shut_int Try.underlying27 w2) trodAll_mk0)))) (fun _ _ => rfl) rfl
    (hg.frame _) hg.2.1 (ok_one (by kernel_rfl) rfl (okWide_bool_mk Try.underlying4 _))⟩

theorem over : Rows.unitJoinsRow.holds Try.pinned (OpenSpec.ofChange Rows.unitJoinsSpec) :=
  OpenClaim.holds_of_wide 7 Try.f7 rfl rfl rfl rfl rfl rfl rfl ⟨rfl, rfl, rfl, rfl, rfl⟩ rfl rfl rfl rfl rfl (by kernel_rfl) Try.func7 (by kernel_rfl)
    (of_decide_eq_true (by kernel_rfl)) (by unfold Func.isWrapper; first | (rw [if_pos (by decide +kernel)]; kernel_rfl) | (rw [if_neg (by decide +kernel)]; exact ⟨rfl, rfl⟩))
    (fun os started H enc _ => lifted os started H enc)

theorem proved : Rows.UnitJoinsSaid :=
  over
#print axioms proved
end Go.Proofs.Ytnkbaombdlbkdaa.unitJoins
