/-
  PlanKeeps: a move keeps the counts as they may be; no block is lost: what the open pages have less is what full ones have more. No condition.
-/
import Derived.Test.YtghlngdmcfconaaRows
import Derived.WalkKit
import Derived.ProofKit
import Derived.OpenShut
import Derived.Test.YtghlngdmcfconaaPlanAwake
import Derived.Test.YtghlngdmcfconaaIntsField
import Derived.ShutString
import Derived.ChangeOld
import Derived.Below
namespace Go.Proofs.Ytghlngdmcfconaa.planKeeps
open Go.ChangeShapes Go.WideShapes Go.ChangeAt Go.RowKit
open Go.ChangeMaps (open_string shut_string)
set_option linter.unusedVariables false

theorem own : ownKnob Try.prog.godebug = none := by kernel_rfl
theorem laidOut : laidOutB Try.prog = true := by kernel_rfl

/-! ### The walk -/
set_option maxRecDepth 20000 in
set_option maxHeartbeats 1000000 in
theorem walk (acounts : Option Addr) (lcounts ccounts : Nat) (counts : List Int) (blocks : Int) (w : World) (hcounts : Ints w w.heap.size acounts lcounts counts) (hccounts : lcounts ≤ ccounts) (hblocks : (Lit.int .i64 blocks).wf = true) :
    Calls Try.prog 5 #[.slice acounts lcounts ccounts, .int .i64 blocks] w fun e w' => e = .returned (.bool true) ∧ Below w.heap.size w w' := by
  have A := Lib.hid (awake14_any w)
  have hb := wf_i64 hblocks
  have HI := Lib.hid hcounts
  have SM := Lib.hid fun v (hv : Ints v v.heap.size acounts lcounts counts) => small_any acounts lcounts ccounts counts blocks _ v hv
  clear hcounts hblocks
  cases hs : smB blocks counts with
  | false =>
    rw [hs] at SM
    clear hs
    go_enter Try.func5, Try.ntmps5
    go_wp2_with fail
    refine A.out.mono ?_
    rintro e w0 ⟨rfl, h0⟩
    go_wp2_with fail
    refine (SM.out _ (HI.out.on h0)).mono ?_
    rintro e w1 ⟨rfl, rfl⟩
    go_wp2
    go_ret
    exact ⟨rfl, h0⟩
  | true =>
    rw [hs] at SM
    have S := smB_on hs
    have hl := HI.out.len
    have h12 : lcounts ≤ 12 := by rw [← hl]; exact S.len
    have HN := Lib.hid fun v (hv : Ints v v.heap.size acounts lcounts counts) => next_any acounts lcounts ccounts counts blocks v hv S
    by_cases h2 : lcounts < 2
    · rw [nextL_few (by omega)] at HN
      have d2 : decide ((lcounts : Int) < 2) = true := decide_eq_true (by omega)
      clear hs S
      go_enter Try.func5, Try.ntmps5
      go_wp2_with fail
      refine A.out.mono ?_
      rintro e w0 ⟨rfl, h0⟩
      have I0 := Lib.hid (HI.out.on h0)
      have H0 := Lib.hid h0
      clear h0
      go_wp2_with fail
      refine (SM.out _ I0.out).mono ?_
      rintro e w1 ⟨rfl, rfl⟩
      go_wp2_with fail
      refine (HN.out _ I0.out).mono ?_
      rintro e w6 ⟨a6, c6, rfl, i6, b6⟩
      rw [hl] at i6
      have B6 := Lib.hid (belowT H0.out b6)
      have SA := Lib.hid (same_alike a6 acounts lcounts c6 ccounts counts _ w6 i6 (I0.out.on b6))
      clear b6 i6
      rw [hl]
      go_wp2_with fail
      refine SA.out.mono ?_
      rintro e w8 ⟨rfl, n8, rfl⟩
      go_wp2
      go_ret
      exact ⟨rfl, belowN B6.out n8⟩
    · obtain ⟨x, mid, y, rfl⟩ := two_ends (xs := counts) (by omega)
      obtain ⟨hx, hmm, hy⟩ := may_parts S.may
      have hb20 := S.blk
      have SN := S.next
      have ln1 : (nextL blocks (x :: (mid ++ [y]))).length ≤ lcounts := by rw [← hl]; exact next_len
      have ln2 : lcounts ≤ (nextL blocks (x :: (mid ++ [y]))).length + 2 := by rw [← hl]; exact next_len2
      have hsum := sum_next (b := blocks) (x := x) (y := y) (mid := mid)
      have f1 := sum_fit hb20 S.may
      have f2 := sum_fit hb20 SN.may
      have SC := Lib.hid fun v (hv : Ints v v.heap.size acounts lcounts (x :: (mid ++ [y]))) => sum_any acounts lcounts ccounts _ blocks _ v hv S
      have SY := Lib.hid fun a c v (hv : Ints v v.heap.size a (nextL blocks (x :: (mid ++ [y]))).length (nextL blocks (x :: (mid ++ [y])))) => sum_any a _ c _ blocks _ v hv SN
      have MY := Lib.hid fun a c v (hv : Ints v v.heap.size a (nextL blocks (x :: (mid ++ [y]))).length (nextL blocks (x :: (mid ++ [y])))) => may_any a _ c _ blocks _ v hv
      rw [SN.may] at MY
      have hl12 := S.len
      have hn12 := SN.len
      generalize nextL blocks (x :: (mid ++ [y])) = ys at *
      generalize hS0 : (x :: (mid ++ [y])).sum = s0 at *
      generalize hS1 : ys.sum = s1 at *
      obtain ⟨q, hq⟩ : ∃ q, s0 - s1 = q := ⟨_, rfl⟩
      have hw : IntKind.i64.wrap (s0 - s1) = q := (IntWalk.i64_in _ (by omega)).trans hq
      have hw1 : IntKind.i64.wrap (blocks - 1) = blocks - 1 := IntWalk.i64_in _ (by omega)
      have hw2 : IntKind.i64.wrap ((lcounts : Int) - 2) = (lcounts : Int) - 2 := IntWalk.i64_in _ (by omega)
      have d2 : decide ((lcounts : Int) < 2) = false := decide_eq_false (by omega)
      have d3 : decide ((ys.length : Int) ≤ (lcounts : Int)) = true := decide_eq_true (by omega)
      have d3' : decide (ys.length ≤ lcounts) = true := decide_eq_true (by omega)
      have d4 : decide ((lcounts : Int) - 2 ≤ (ys.length : Int)) = true := decide_eq_true (by omega)
      obtain ⟨g, o, rfl, hg, hc⟩ := HI.out.head (by omega)
      have cx : w.cell? ⟨g, o, none⟩ = some (.int .i64 x) := hc 0 x rfl
      have h0n : (0 : Int) < (lcounts : Int) := by omega
      rw [hq] at hsum
      have two : ((x == blocks - 1) = true ∧ (q == blocks) = true) ∨ ((x == blocks - 1) = false ∧ (q == 0) = true) := by
        by_cases hxb : x = blocks - 1
        · rw [if_pos hxb] at hsum
          exact .inl ⟨by simp [hxb], by simp [hsum]⟩
        · rw [if_neg hxb] at hsum
          exact .inr ⟨by simp [hxb], by simp [hsum]⟩
      clear hs S SN hsum hS0 hS1 hq hc f1 f2 ln1 ln2 hmm
      go_enter Try.func5, Try.ntmps5
      go_wp2_with fail
      refine A.out.mono ?_
      rintro e w0 ⟨rfl, h0⟩
      have I0 := Lib.hid (HI.out.on h0)
      have H0 := Lib.hid h0
      have c0 := (h0.cell (p := ⟨g, o, none⟩) hg).trans cx
      have hg0 : g < w0.heap.size := Nat.lt_of_lt_of_le hg h0.size
      clear h0 cx
      go_wp2_with fail
      refine (SM.out _ I0.out).mono ?_
      rintro e w1 ⟨rfl, rfl⟩
      go_wp2_with fail
      refine (HN.out _ I0.out).mono ?_
      rintro e w6 ⟨a6, c6, rfl, i6, b6⟩
      have B6 := Lib.hid (belowT H0.out b6)
      have I6 := Lib.hid (I0.out.on b6)
      have Y6 := Lib.hid i6
      have c6' := (b6.cell (p := ⟨g, o, none⟩) hg0).trans c0
      clear b6 i6 c0
      go_wp2_with fail
      refine (SC.out _ I6.out).mono ?_
      rintro e w7 ⟨rfl, rfl⟩
      go_wp2_with fail
      refine (SY.out _ _ _ Y6.out).mono ?_
      rintro e w7 ⟨rfl, rfl⟩
      rcases two with ⟨t1, t2⟩ | ⟨t1, t2⟩
      · go_wp2_with fail
        refine (MY.out _ _ _ Y6.out).mono ?_
        rintro e w7 ⟨rfl, rfl⟩
        go_wp2
        go_ret
        exact ⟨rfl, B6.out⟩
      · go_wp2_with fail
        refine (MY.out _ _ _ Y6.out).mono ?_
        rintro e w7 ⟨rfl, rfl⟩
        go_wp2
        go_ret
        exact ⟨rfl, B6.out⟩

/-! ### The frame of the row -/
set_option maxRecDepth 100000 in
theorem lifted (os : Os) (started : os.Started) (H : Type) (enc : TypeId × Value → H) :
    ReturnsInHanded {} Try.checked os 5 .any (Rows.planKeepsSpec.pre6 enc Try.prog Try.f5 Rows.planKeepsRow.domain false) (Rows.planKeepsSpec.post enc Try.prog Try.f5 false true false false) := by
  refine returnsInHanded_of_change (C := Try.checked) own started (by kernel_rfl) Try.func5
    (ChangeSpec.witness6 (enc := enc) (C := Try.checked) false ⟨#[], #[.slice none 0 0, .int .i64 0], []⟩ 8 (by kernel_rfl) (by kernel_rfl) (by kernel_rfl) (by kernel_rfl)) ?_
  intro W base args ds gs before hval0 hW hcnd _
  have hval : ∀ (j : Nat) t v, Try.f5.params[j]? = some t → args[j]? = some v → Value.okWide Try.prog W .any base t v := hval0
  have hW' := hW
  obtain ⟨p, q, hA0, hV, rfl, hfz, hnd⟩ := hW
  have hA : DataW.TrodAll enc Try.prog W 0 (fun _ => true) true Try.f5.params.toList args.toList ds p := hA0
  rw [Try.params5] at hA hval
  obtain ⟨v0, vs0, d0, ds0, p0, q0, hargs, rfl, rfl, h0, r0⟩ := trodAll_cons hA
  obtain ⟨v1, vs1, d1, ds1, p1, q1, rfl, rfl, rfl, h1, r1⟩ := trodAll_cons r0
  obtain ⟨rfl, rfl, rfl⟩ := trodAll_nil r1
  obtain rfl : args = #[v0, v1] := by cases args; simp_all
  obtain ⟨rfl, rfl⟩ := trodVars_none hV
  have k0 := h0
  have lt0 : ∀ x ∈ p0, x.block < W.heap.size := by obtain ⟨m, hm⟩ := k0; exact DataW.trod_lt m _ _ _ hm
  obtain ⟨acounts, lcounts, ccounts, rfl⟩ := okWide_slice Try.underlying22 (hval 0 22 v0 rfl rfl)
  obtain ⟨counts, hccounts, hcounts⟩ : ∃ xs, lcounts ≤ ccounts ∧ Ints W W.heap.size acounts lcounts xs := by
    obtain ⟨fuel, hf⟩ := h0
    obtain ⟨a, l, c, xs, e, hl, hi⟩ := ints_field (by simpa [Value.cells] using hf)
    injection e with e1 e2 e3
    subst e1 e2 e3
    exact ⟨xs, hl, hi⟩
  obtain ⟨blocks, rfl, rfl, rfl, hblocks⟩ := open_int Try.underlying3 (hval 1 3 v1 rfl rfl) h1
  clear hA0 hval0
  refine (walk acounts lcounts ccounts counts blocks W hcounts hccounts hblocks).mono fun e W' ⟨he, bel⟩ => ?_
  subst he
  exact ⟨_, rfl, _, _, _, [], _, [], hW', trodAll_mk1 (shut_bool Try.underlying4 _), (trodAll_cons_mk (Below.trod laidOut (by kernel_rfl) (of_decide_eq_true (by kernel_rfl)) k0 bel lt0) (trodAll_cons_mk (shut_int Try.underlying3 hblocks) trodAll_mk0)), rfl, bel.frame _, fun h => by cases h⟩

theorem over : Rows.planKeepsRow.holds Try.pinned (OpenSpec.ofChange Rows.planKeepsSpec) :=
  OpenClaim.holds_of_wide 5 Try.f5 rfl rfl rfl rfl rfl rfl rfl ⟨rfl, rfl, rfl, rfl, rfl⟩ rfl rfl rfl rfl rfl (by kernel_rfl) Try.func5 (by kernel_rfl)
    (of_decide_eq_true (by kernel_rfl)) (by unfold Func.isWrapper; first | (rw [if_pos (by decide +kernel)]; kernel_rfl) | (rw [if_neg (by decide +kernel)]; exact ⟨rfl, rfl⟩))
    (fun os started H enc _ => lifted os started H enc)

theorem proved : Rows.PlanKeepsSaid := over
#print axioms proved
end Go.Proofs.Ytghlngdmcfconaa.planKeeps
