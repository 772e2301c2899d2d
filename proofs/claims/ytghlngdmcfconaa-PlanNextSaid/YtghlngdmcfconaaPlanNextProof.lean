/-
  PlanNext: the pages behind a move, of any counts that may be, and how many moves it takes. No condition.
-/
import Derived.Test.YtghlngdmcfconaaRows
import Derived.WalkKit
import Derived.ProofKit
import Derived.OpenShut
import Derived.Test.YtghlngdmcfconaaPlanAwake
import Derived.Test.YtghlngdmcfconaaPlanRefMoves
import Derived.Test.YtghlngdmcfconaaIntsField
import Derived.ShutString
import Derived.ChangeOld
import Derived.Below
namespace Go.Proofs.Ytghlngdmcfconaa.planNext
open Go.ChangeShapes Go.WideShapes Go.ChangeAt Go.RowKit
open Go.ChangeMaps (open_string shut_string)
set_option linter.unusedVariables false

theorem own : ownKnob Try.prog.godebug = none := by kernel_rfl
theorem laidOut : laidOutB Try.prog = true := by kernel_rfl

/-! ### The walk -/
set_option maxRecDepth 20000 in
set_option maxHeartbeats 1000000 in
theorem walk (acounts : Option Addr) (lcounts ccounts : Nat) (counts : List Int) (blocks : Int) (keep : Int) (w : World) (hcounts : Ints w w.heap.size acounts lcounts counts) (hccounts : lcounts ≤ ccounts) (hblocks : (Lit.int .i64 blocks).wf = true) (hkeep : (Lit.int .i64 keep).wf = true) :
    Calls Try.prog 4 #[.slice acounts lcounts ccounts, .int .i64 blocks, .int .i64 keep] w fun e w' => e = .returned (.bool true) ∧ Below w.heap.size w w' := by
  have A := Lib.hid (awake14_any w)
  have hb := wf_i64 hblocks
  have hk := wf_i64 hkeep
  have HI := Lib.hid hcounts
  have SM := Lib.hid fun v (hv : Ints v v.heap.size acounts lcounts counts) => small_any acounts lcounts ccounts counts blocks _ v hv
  clear hcounts hblocks hkeep
  cases hs : smB blocks counts with
  | false =>
    rw [hs] at SM
    clear hs
    go_enter Try.func4, Try.ntmps4
    go_wp2_with fail
    refine A.out.mono ?_
    rintro e w0 ⟨rfl, h0⟩
    go_wp2_with fail
    refine (SM.out _ (HI.out.on h0)).mono ?_
    rintro e w1 ⟨rfl, rfl⟩
    go_wp2
    go_ret
    exact ⟨rfl, h0⟩
  | true =>
    rw [hs] at SM
    have S := smB_on hs
    have HN := Lib.hid fun v (hv : Ints v v.heap.size acounts lcounts counts) => next_any acounts lcounts ccounts counts blocks v hv S
    have HR := Lib.hid fun v (hv : Ints v v.heap.size acounts lcounts counts) => refNext_any acounts lcounts ccounts counts blocks v hv S
    have HM := Lib.hid fun v (hv : Ints v v.heap.size acounts lcounts counts) => moves_any acounts lcounts ccounts counts blocks keep v hv S hk
    have HV := Lib.hid fun v (hv : Ints v v.heap.size acounts lcounts counts) => refMoves_any acounts lcounts ccounts counts blocks keep v hv S hk
    have h12 : lcounts ≤ 12 := by rw [← HI.out.len]; exact S.len
    generalize nextL blocks counts = ys at HN HR
    generalize movesN blocks keep counts = q at HM HV
    clear hs S
    have eq : (q == q) = true := by simp
    go_enter Try.func4, Try.ntmps4
    go_wp2_with fail
    refine A.out.mono ?_
    rintro e w0 ⟨rfl, h0⟩
    have I0 := HI.out.on h0
    go_wp2_with fail
    refine (SM.out _ I0).mono ?_
    rintro e w1 ⟨rfl, rfl⟩
    have own0 : (w0.alloc (.cells #[] 3)).ownsRow w0.heap.size 3 1 (.slice (some ⟨w0.heap.size, 0, none⟩) 0 0) 0 (([] : List Int).map (Value.int .i64)) := World.ownsRow_lit w0 #[] 0 (Nat.le_refl _) (by unfold maxLen; omega) rfl
    obtain ⟨g, cap, w5, hrun, hown, b5⟩ := app_ints (c := ccounts) own0 (I0.on (below1 w0 (.cells #[] 3))) (by simp) (by omega) 22
    rw [Nat.zero_add, List.nil_append] at hown
    rw [Nat.zero_add] at hrun
    obtain ⟨J5, _⟩ := ints_own hown (by omega) I0.2.2.1
    have bb5 : Below w0.heap.size w0 w5 := (below1 w0 _).trans b5
    have B5 := Lib.hid (belowT h0 bb5)
    have I5 := Lib.hid (I0.on bb5)
    have W5 := Lib.hid J5
    have R := Lib.hid hrun
    clear hrun hown own0 b5 J5 bb5 I0 h0
    go_wp2_with (first | fail | (at_builtin; refine wpList_append_run rfl _ _ rfl rfl rfl rfl R.out ?_))
    refine (HN.out _ I5.out).mono ?_
    rintro e w6 ⟨a6, c6, rfl, i6, b6⟩
    have B6 := Lib.hid (belowT B5.out b6)
    have I6 := Lib.hid (I5.out.on b6)
    have W6 := Lib.hid (W5.out.on b6)
    have N6 := Lib.hid i6
    clear b6 i6 B5 I5 W5 R
    go_wp2_with fail
    refine (HR.out _ I6.out).mono ?_
    rintro e w7 ⟨a7, c7, rfl, i7, b7⟩
    have B7 := Lib.hid (belowT B6.out b7)
    have I7 := Lib.hid (I6.out.on b7)
    have W7 := Lib.hid (W6.out.on b7)
    have SA := Lib.hid (same_alike a6 a7 ys.length c6 c7 ys _ w7 (N6.out.on b7) i7)
    clear b7 i7 B6 I6 W6 N6
    go_wp2_with fail
    refine SA.out.mono ?_
    rintro e w8 ⟨rfl, n8, rfl⟩
    have B8 : Hid (Below w.heap.size w (w7.drewN n8)) := Lib.hid (belowN B7.out n8)
    have I8 : Hid (Ints (w7.drewN n8) (w7.drewN n8).heap.size acounts lcounts counts) := Lib.hid I7.out
    have W8 : Hid (Ints (w7.drewN n8) (w7.drewN n8).heap.size (some ⟨g, 0, none⟩) lcounts counts) := Lib.hid W7.out
    generalize w7.drewN n8 = w8 at *
    clear B7 I7 W7 SA
    go_wp2_with fail
    refine (HM.out _ I8.out).mono ?_
    rintro e w9 ⟨rfl, b9⟩
    have B9 := Lib.hid (belowT B8.out b9)
    have I9 := Lib.hid (I8.out.on b9)
    have W9 := Lib.hid (W8.out.on b9)
    clear b9 B8 I8 W8
    go_wp2_with fail
    refine (HV.out _ I9.out).mono ?_
    rintro e w10 ⟨rfl, b10⟩
    have B10 := Lib.hid (belowT B9.out b10)
    have SB := Lib.hid (same_alike acounts (some ⟨g, 0, none⟩) lcounts ccounts cap counts _ w10 (I9.out.on b10) (W9.out.on b10))
    clear b10 B9 I9 W9
    go_wp2_with fail
    refine SB.out.mono ?_
    rintro e w11 ⟨rfl, n11, rfl⟩
    go_wp2
    go_ret
    exact ⟨rfl, belowN B10.out n11⟩

/-! ### The frame of the row -/
set_option maxRecDepth 100000 in
theorem lifted (os : Os) (started : os.Started) (H : Type) (enc : TypeId × Value → H) :
    ReturnsInHanded {} Try.checked os 4 .any (Rows.planNextSpec.pre6 enc Try.prog Try.f4 Rows.planNextRow.domain false) (Rows.planNextSpec.post enc Try.prog Try.f4 false true false false) := by
  refine returnsInHanded_of_change (C := Try.checked) own started (by kernel_rfl) Try.func4
    (ChangeSpec.witness6 (enc := enc) (C := Try.checked) false ⟨#[], #[.slice none 0 0, .int .i64 0, .int .i64 0], []⟩ 8 (by kernel_rfl) (by kernel_rfl) (by kernel_rfl) (by kernel_rfl)) ?_
  intro W base args ds gs before hval0 hW hcnd _
  have hval : ∀ (j : Nat) t v, Try.f4.params[j]? = some t → args[j]? = some v → Value.okWide Try.prog W .any base t v := hval0
  have hW' := hW
  obtain ⟨p, q, hA0, hV, rfl, hfz, hnd⟩ := hW
  have hA : DataW.TrodAll enc Try.prog W 0 (fun _ => true) true Try.f4.params.toList args.toList ds p := hA0
  rw [Try.params4] at hA hval
  obtain ⟨v0, vs0, d0, ds0, p0, q0, hargs, rfl, rfl, h0, r0⟩ := trodAll_cons hA
  obtain ⟨v1, vs1, d1, ds1, p1, q1, rfl, rfl, rfl, h1, r1⟩ := trodAll_cons r0
  obtain ⟨v2, vs2, d2, ds2, p2, q2, rfl, rfl, rfl, h2, r2⟩ := trodAll_cons r1
  obtain ⟨rfl, rfl, rfl⟩ := trodAll_nil r2
  obtain rfl : args = #[v0, v1, v2] := by cases args; simp_all
  obtain ⟨rfl, rfl⟩ := trodVars_none hV
  have k0 := h0
  have lt0 : ∀ x ∈ p0, x.block < W.heap.size := by obtain ⟨m, hm⟩ := k0; exact DataW.trod_lt m _ _ _ hm
  obtain ⟨acounts, lcounts, ccounts, rfl⟩ := okWide_slice Try.underlying22 (hval 0 22 v0 rfl rfl)
  obtain ⟨counts, hccounts, hcounts⟩ : ∃ xs, lcounts ≤ ccounts ∧ Ints W W.heap.size acounts lcounts xs := by
    obtain ⟨fuel, hf⟩ := h0
    obtain ⟨a, l, c, xs, e, hl, hi⟩ := ints_field (by simpa [Value.cells] using hf)
    injection e with e1 e2 e3
    subst e1 e2 e3
    exact ⟨xs, hl, hi⟩
  obtain ⟨blocks, rfl, rfl, rfl, hblocks⟩ := open_int Try.underlying3 (hval 1 3 v1 rfl rfl) h1
  obtain ⟨keep, rfl, rfl, rfl, hkeep⟩ := open_int Try.underlying3 (hval 2 3 v2 rfl rfl) h2
  clear hA0 hval0
  refine (walk acounts lcounts ccounts counts blocks keep W hcounts hccounts hblocks hkeep).mono fun e W' ⟨he, bel⟩ => ?_
  subst he
  exact ⟨_, rfl, _, _, _, [], _, [], hW', trodAll_mk1 (shut_bool Try.underlying4 _), (trodAll_cons_mk (Below.trod laidOut (by kernel_rfl) (of_decide_eq_true (by kernel_rfl)) k0 bel lt0) (trodAll_cons_mk (shut_int Try.underlying3 hblocks) (trodAll_cons_mk (shut_int Try.underlying3 hkeep) trodAll_mk0))), rfl, bel.frame _, fun h => by cases h⟩

theorem over : Rows.planNextRow.holds Try.pinned (OpenSpec.ofChange Rows.planNextSpec) :=
  OpenClaim.holds_of_wide 4 Try.f4 rfl rfl rfl rfl rfl rfl rfl ⟨rfl, rfl, rfl, rfl, rfl⟩ rfl rfl rfl rfl rfl (by kernel_rfl) Try.func4 (by kernel_rfl)
    (of_decide_eq_true (by kernel_rfl)) (by unfold Func.isWrapper; first | (rw [if_pos (by decide +kernel)]; kernel_rfl) | (rw [if_neg (by decide +kernel)]; exact ⟨rfl, rfl⟩))
    (fun os started H enc _ => lifted os started H enc)

theorem proved : Rows.PlanNextSaid := over
#print axioms proved
end Go.Proofs.Ytghlngdmcfconaa.planNext
