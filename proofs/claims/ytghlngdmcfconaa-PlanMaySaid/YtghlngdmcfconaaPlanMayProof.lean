/-
  PlanMay: whether open pages may have any counts, of any blocks; whether one of any open pages is too much. No condition.
-/
import Derived.Test.YtghlngdmcfconaaRows
import Derived.WalkKit
import Derived.ProofKit
import Derived.OpenShut
import Derived.Test.YtghlngdmcfconaaPlanAwake
import Derived.Test.YtghlngdmcfconaaIntsField
import Derived.ShutString
import Derived.ChangeOld
import Derived.Below
namespace Go.Proofs.Ytghlngdmcfconaa.planMay
open Go.ChangeShapes Go.WideShapes Go.ChangeAt Go.RowKit
open Go.ChangeMaps (open_string shut_string)
set_option linter.unusedVariables false

theorem own : ownKnob Try.prog.godebug = none := by kernel_rfl
theorem laidOut : laidOutB Try.prog = true := by kernel_rfl

/-! ### The walk -/
set_option maxRecDepth 20000 in
set_option maxHeartbeats 1000000 in
theorem walk (acounts : Option Addr) (lcounts ccounts : Nat) (counts : List Int) (blocks : Int) (keep : Int) (w : World) (hcounts : Ints w w.heap.size acounts lcounts counts) (hccounts : lcounts ≤ ccounts) (hblocks : (Lit.int .i64 blocks).wf = true) (hkeep : (Lit.int .i64 keep).wf = true) :
    Calls Try.prog 3 #[.slice acounts lcounts ccounts, .int .i64 blocks, .int .i64 keep] w fun e w' => e = .returned (.bool true) ∧ Below w.heap.size w w' := by
  have A := Lib.hid (awake14_any w)
  have hb := wf_i64 hblocks
  have hk := wf_i64 hkeep
  have hmx := hcounts.max
  have HI := Lib.hid hcounts
  obtain ⟨m, hm⟩ : ∃ m, mayL blocks counts = m := ⟨_, rfl⟩
  obtain ⟨d, hd⟩ : ∃ d, dueB blocks keep = d := ⟨_, rfl⟩
  obtain ⟨d', hd'⟩ : ∃ d', dueB (lcounts : Int) keep = d' := ⟨_, rfl⟩
  have M1 : Hid (∀ v, Ints v v.heap.size acounts lcounts counts → Calls Try.prog 9 #[.slice acounts lcounts ccounts, .int .i64 blocks] v (B1 m v)) := Lib.hid fun v hv => by rw [← hm]; exact may_any _ _ _ _ _ _ v hv
  have M2 : Hid (∀ v, Ints v v.heap.size acounts lcounts counts → Calls Try.prog 10 #[.slice acounts lcounts ccounts, .int .i64 blocks] v (B1 m v)) := Lib.hid fun v hv => by rw [← hm]; exact refMay_any _ _ _ _ _ _ v hv
  have D1 : Hid (∀ v, Calls Try.prog 11 #[.int .i64 blocks, .int .i64 keep] v (B1 d v)) := Lib.hid fun v => by rw [← hd]; exact due_any _ _ v (by omega) hk
  have D2 : Hid (∀ v, Calls Try.prog 12 #[.int .i64 blocks, .int .i64 keep] v (B1 d v)) := Lib.hid fun v => by rw [← hd]; exact refDue_any _ _ v (by omega) hk
  have D3 : Hid (∀ v, Calls Try.prog 11 #[.int .i64 (lcounts : Int), .int .i64 keep] v (B1 d' v)) := Lib.hid fun v => by rw [← hd']; exact due_any _ _ v (by omega) hk
  have D4 : Hid (∀ v, Calls Try.prog 12 #[.int .i64 (lcounts : Int), .int .i64 keep] v (B1 d' v)) := Lib.hid fun v => by rw [← hd']; exact refDue_any _ _ v (by omega) hk
  have e1 : (m == m) = true := by cases m <;> rfl
  have e2 : (d == d) = true := by cases d <;> rfl
  have e3 : (d' == d') = true := by cases d' <;> rfl
  clear hm hd hd' hcounts hblocks hkeep
  by_cases h40 : 40 < lcounts
  · have d40 : decide ((40 : Int) < (lcounts : Int)) = true := decide_eq_true (by omega)
    go_enter Try.func3, Try.ntmps3
    go_wp2_with fail
    refine A.out.mono ?_
    rintro e w0 ⟨rfl, h0⟩
    go_wp2
    go_ret
    exact ⟨rfl, h0⟩
  · have d40 : decide ((40 : Int) < (lcounts : Int)) = false := decide_eq_false (by omega)
    go_enter Try.func3, Try.ntmps3
    go_wp2_with fail
    refine A.out.mono ?_
    rintro e w0 ⟨rfl, h0⟩
    have I0 := Lib.hid (HI.out.on h0)
    have H0 := Lib.hid h0
    clear h0
    go_wp2_with fail
    refine (M1.out _ I0.out).mono ?_
    rintro e w1 ⟨rfl, rfl⟩
    go_wp2_with fail
    refine (M2.out _ I0.out).mono ?_
    rintro e w1 ⟨rfl, rfl⟩
    go_wp2_with fail
    refine (D1.out _).mono ?_
    rintro e w1 ⟨rfl, rfl⟩
    go_wp2_with fail
    refine (D2.out _).mono ?_
    rintro e w1 ⟨rfl, rfl⟩
    go_wp2_with fail
    refine (D3.out _).mono ?_
    rintro e w1 ⟨rfl, rfl⟩
    go_wp2_with fail
    refine (D4.out _).mono ?_
    rintro e w1 ⟨rfl, rfl⟩
    go_wp2
    go_ret
    exact ⟨rfl, H0.out⟩

/-! ### The frame of the row -/
set_option maxRecDepth 100000 in
theorem lifted (os : Os) (started : os.Started) (H : Type) (enc : TypeId × Value → H) :
    ReturnsInHanded {} Try.checked os 3 .any (Rows.planMaySpec.pre6 enc Try.prog Try.f3 Rows.planMayRow.domain false) (Rows.planMaySpec.post enc Try.prog Try.f3 false true false false) := by
  refine returnsInHanded_of_change (C := Try.checked) own started (by kernel_rfl) Try.func3
    (ChangeSpec.witness6 (enc := enc) (C := Try.checked) false ⟨#[], #[.slice none 0 0, .int .i64 0, .int .i64 0], []⟩ 8 (by kernel_rfl) (by kernel_rfl) (by kernel_rfl) (by kernel_rfl)) ?_
  intro W base args ds gs before hval0 hW hcnd _
  have hval : ∀ (j : Nat) t v, Try.f3.params[j]? = some t → args[j]? = some v → Value.okWide Try.prog W .any base t v := hval0
  have hW' := hW
  obtain ⟨p, q, hA0, hV, rfl, hfz, hnd⟩ := hW
  have hA : DataW.TrodAll enc Try.prog W 0 (fun _ => true) true Try.f3.params.toList args.toList ds p := hA0
  rw [Try.params3] at hA hval
  obtain ⟨v0, vs0, d0, ds0, p0, q0, hargs, rfl, rfl, h0, r0⟩ := trodAll_cons hA
  obtain ⟨v1, vs1, d1, ds1, p1, q1, rfl, rfl, rfl, h1, r1⟩ := trodAll_cons r0
  obtain ⟨v2, vs2, d2, ds2, p2, q2, rfl, rfl, rfl, h2, r2⟩ := trodAll_cons r1
  obtain ⟨rfl, rfl, rfl⟩ := trodAll_nil r2
  obtain rfl : args = #[v0, v1, v2] := by cases args; simp_all
  obtain ⟨rfl, rfl⟩ := trodVars_none hV
  have k0 := h0
  have lt0 : ∀ x ∈ p0, x.block < W.heap.size := by obtain ⟨m, hm⟩ := k0; exact DataW.trod_lt m _ _ _ hm
  obtain ⟨acounts, lcounts, ccounts, rfl⟩ := okWide_slice Try.underlying22 (hval 0 22 v0 rfl rfl)
  obtain ⟨counts, hccounts, hcounts⟩ : ∃ xs, lcounts ≤ ccounts ∧ Ints W W.heap.size acounts lcounts xs := by
    obtain ⟨fuel, hf⟩ := h0
    obtain ⟨a, l, c, xs, e, hl, hi⟩ := ints_field (by simpa [Value.cells] using hf)
    injection e with e1 e2 e3
    subst e1 e2 e3
    exact ⟨xs, hl, hi⟩
  obtain ⟨blocks, rfl, rfl, rfl, hblocks⟩ := open_int Try.underlying3 (hval 1 3 v1 rfl rfl) h1
  obtain ⟨keep, rfl, rfl, rfl, hkeep⟩ := open_int Try.underlying3 (hval 2 3 v2 rfl rfl) h2
  clear hA0 hval0
  refine (walk acounts lcounts ccounts counts blocks keep W hcounts hccounts hblocks hkeep).mono fun e W' ⟨he, bel⟩ => ?_
  subst he
  exact ⟨_, rfl, _, _, _, [], _, [], hW', trodAll_mk1 (shut_bool Try.underlying4 _), (trodAll_cons_mk (Below.trod laidOut (by kernel_rfl) (of_decide_eq_true (by kernel_rfl)) k0 bel lt0) (trodAll_cons_mk (shut_int Try.underlying3 hblocks) (trodAll_cons_mk (shut_int Try.underlying3 hkeep) trodAll_mk0))), rfl, bel.frame _, fun h => by cases h⟩

theorem over : Rows.planMayRow.holds Try.pinned (OpenSpec.ofChange Rows.planMaySpec) :=
  OpenClaim.holds_of_wide 3 Try.f3 rfl rfl rfl rfl rfl rfl rfl ⟨rfl, rfl, rfl, rfl, rfl⟩ rfl rfl rfl rfl rfl (by kernel_rfl) Try.func3 (by kernel_rfl)
    (of_decide_eq_true (by kernel_rfl)) (by unfold Func.isWrapper; first | (rw [if_pos (by decide +kernel)]; kernel_rfl) | (rw [if_neg (by decide +kernel)]; exact ⟨rfl, rfl⟩))
    (fun os started H enc _ => lifted os started H enc)

theorem proved : Rows.PlanMaySaid := over
#print axioms proved
end Go.Proofs.Ytghlngdmcfconaa.planMay
