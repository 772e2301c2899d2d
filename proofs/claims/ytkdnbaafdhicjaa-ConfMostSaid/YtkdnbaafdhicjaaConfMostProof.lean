/-
  almerylaw03.ConfMost returns true for every layout, and all memory that was there is as it was. No condition.
-/
import Derived.Test.YtkdnbaafdhicjaaRows
import Derived.WalkKit
import Derived.ProofKit
import Derived.OpenShut
import Derived.Test.YtkdnbaafdhicjaaConfAwake
import Derived.Test.YtkdnbaafdhicjaaConfRefMay
import Derived.Test.YtkdnbaafdhicjaaConfOpen
import Derived.ShutString
import Derived.ChangeOld
import Derived.Below
namespace Go.Proofs.Ytkdnbaafdhicjaa.confMost
open Go.ChangeShapes Go.WideShapes Go.ChangeAt Go.RowKit
open Go.ChangeMaps (open_string shut_string)
set_option linter.unusedVariables false

theorem own : ownKnob Try.prog.godebug = none := by kernel_rfl
theorem laidOut : laidOutB Try.prog = true := by kernel_rfl

/-- What a layout that may be has. -/
structure May03 (c : Cf) : Prop where
  size : sizeB c.size = true
  classes : mayB c.xs c.size = true
  keep : keepB c.ks c.cn = true
  most : 1 ≤ c.most ∧ c.most ≤ large c.size
theorem may03 {c : Cf} (h : confB c = true) : May03 c := by
  simp only [confB, Bool.and_eq_true] at h
  exact ⟨h.1, h.2.2.1, h.2.2.2.1, inB_true.1 h.2.2.2.2.2.2.2⟩
theorem large_by {s : Int} (h : sizeB s = true) : large s % s = 0 ∧ large s / s = s / 8 := by
  obtain ⟨h1, _, _⟩ := sizeB_true.1 h
  rw [large_words h]
  exact ⟨Int.mul_emod_right _ _, Int.mul_ediv_cancel_left _ (by omega)⟩
theorem small_in {c : Cf} (h : mayB c.xs c.size = true) : 8 ≤ small c ∧ small c ≤ c.size := by
  simp only [mayB, Bool.and_eq_true, decide_eq_true_eq] at h
  obtain ⟨⟨h1, _⟩, h2⟩ := h
  have hs : c.xs[c.xs.length - 1]? = some (c.xs[c.xs.length - 1]'(by omega)) := List.getElem?_eq_getElem (by omega)
  obtain ⟨a, _, b, _⟩ := okFrom_all c.xs 0 h2 _ _ hs
  unfold small
  rw [show ((c.xs.length : Int) - 1) = ((c.xs.length - 1 : Nat) : Int) by omega, sizeAt_at hs]
  exact ⟨a, b⟩

/-! ### The walk -/
set_option maxHeartbeats 3200000 in
theorem walk (c : Cf) (w : World) (hc : c.Ok w w.heap.size) (hcc : c.cn ≤ c.cc) (hkc : c.kn ≤ c.kc) :
    Calls Try.prog 7 #[.agg #[.int .i64 c.size, .int .i64 c.pages, .slice c.ca c.cn c.cc, .slice c.ka c.kn c.kc, .int .i64 c.step, .int .i64 c.slots, .int .i64 c.gens, .int .i64 c.most]] w fun e w' => e = .returned (.bool true) ∧ Below w.heap.size w w' := by
  have B0 := Boxed.new w c
  have b0 := below1 w (.cells #[.int .i64 c.size, .int .i64 c.pages, .slice c.ca c.cn c.cc, .slice c.ka c.kn c.kc, .int .i64 c.step, .int .i64 c.slots, .int .i64 c.gens, .int .i64 c.most] 24)
  have O0 := hc.on b0
  go_enter Try.func7, Try.ntmps7
  go_wp2_with fail
  refine (awake03_any _).mono ?_
  rintro e w1 ⟨rfl, f1⟩
  have B1 := B0.on f1
  have O1 := O0.on f1
  have b1 := belowT b0 f1
  clear f1 B0 O0 b0
  have ⟨x0, x1, x2, x3, x4, x5, x6, x7, x8⟩ := B1
  have HM := refConfMay_any c w1 O1
  cases hB : confB c with
  | false =>
    rw [confMay_off hB] at HM
    have H := Lib.hid HM
    clear HM hB
    go_wp2_with fail
    refine H.out.mono ?_
    rintro e w2 ⟨rfl, f2⟩
    go_wp2
    go_ret
    exact ⟨rfl, belowT b1 f2⟩
  | true =>
    rw [confMay_on hB] at HM
    have H := Lib.hid HM
    have M := may03 hB
    clear HM hB
    go_wp2_with fail
    refine H.out.mono ?_
    rintro e w2 ⟨rfl, f2⟩
    have B2 := B1.on f2
    have O2 := O1.on f2
    have b2 := belowT b1 f2
    clear f2 B1 O1 b1 x0 x1 x2 x3 x4 x5 x6 x7 H
    have ⟨x0, x1, x2, x3, x4, x5, x6, x7, x8'⟩ := B2
    go_wp2_with fail
    refine (large_any c _).mono ?_
    rintro e w3 ⟨rfl, rfl⟩
    have B3 := B2.on (below1 w2 (.cells #[.int .i64 c.size, .int .i64 c.pages, .slice c.ca c.cn c.cc, .slice c.ka c.kn c.kc, .int .i64 c.step, .int .i64 c.slots, .int .i64 c.gens, .int .i64 c.most] 24))
    have O3 := O2.on (below1 w2 (.cells #[.int .i64 c.size, .int .i64 c.pages, .slice c.ca c.cn c.cc, .slice c.ka c.kn c.kc, .int .i64 c.step, .int .i64 c.slots, .int .i64 c.gens, .int .i64 c.most] 24))
    have b3 := belowT b2 (below1 w2 (.cells #[.int .i64 c.size, .int .i64 c.pages, .slice c.ca c.cn c.cc, .slice c.ka c.kn c.kc, .int .i64 c.step, .int .i64 c.slots, .int .i64 c.gens, .int .i64 c.most] 24))
    generalize w2.alloc (.cells #[.int .i64 c.size, .int .i64 c.pages, .slice c.ca c.cn c.cc, .slice c.ka c.kn c.kc, .int .i64 c.step, .int .i64 c.slots, .int .i64 c.gens, .int .i64 c.most] 24) = w3 at *
    clear B2 O2 b2 x0 x1 x2 x3 x4 x5 x6 x7 x8'
    have ⟨x0, x1, x2, x3, x4, x5, x6, x7, x8'⟩ := B3
    obtain ⟨s1, s2, s3⟩ := sizeB_true.1 M.size
    obtain ⟨l1, l2⟩ := large_by M.size
    obtain ⟨l3, l4⟩ := large_bounds c.size
    obtain ⟨m1, m2⟩ := small_in M.classes
    obtain ⟨m3, m4⟩ := M.most
    have t1 : (large c.size).tmod c.size = 0 := by rw [Int.tmod_eq_emod_of_nonneg l3]; exact l1
    have t2 : (large c.size).tdiv c.size = c.size / 8 := by rw [Int.tdiv_eq_ediv_of_nonneg l3]; exact l2
    have t3 : c.size.tdiv 8 = c.size / 8 := Int.tdiv_eq_ediv_of_nonneg (by omega)
    clear l1 l2 s3
    have e0 : ((0 : Int) == 0) = true := rfl
    have e1 : (c.size / 8 == c.size / 8) = true := by simp
    have e2 : decide (small c ≤ c.size) = true := by simpa using m2
    have e3 : decide (8 ≤ small c) = true := by simpa using m1
    have e4 : decide (c.most ≤ large c.size) = true := by simpa using m4
    have ez : ¬ c.size = 0 := by omega
    have ew : IntKind.i64.wrap (c.size / 8) = c.size / 8 := IntWalk.i64_in _ (by omega)
    have O3' := O3.drew
    have x9 : w.heap.size < w3.drew.heap.size := x8'
    generalize hl : large c.size = l at *
    have HLL := Lib.hid hl
    clear hl M
    go_wp2_with fail
    go_region_held3 (fun w' => w'.cell? ⟨w.heap.size, 0, none⟩ = some (.int .i64 c.size) ∧ w'.cell? ⟨w.heap.size, 1, none⟩ = some (.int .i64 c.pages) ∧
        w'.cell? ⟨w.heap.size, 2, none⟩ = some (.slice c.ca c.cn c.cc) ∧ w'.cell? ⟨w.heap.size, 3, none⟩ = some (.slice c.ka c.kn c.kc) ∧
        w'.cell? ⟨w.heap.size, 4, none⟩ = some (.int .i64 c.step) ∧ w'.cell? ⟨w.heap.size, 5, none⟩ = some (.int .i64 c.slots) ∧
        w'.cell? ⟨w.heap.size, 6, none⟩ = some (.int .i64 c.gens) ∧ w'.cell? ⟨w.heap.size, 7, none⟩ = some (.int .i64 c.most))
      (first | exact ⟨x0, x1, x2, x3, x4, x5, x6, x7⟩ | exact keep8 f4 x9 (by assumption) | exact keep8 f5 l4' (by assumption) | go_keep)
      (first
        | (go_at_call 14; refine (small_any c _ (by exact O3')).mono ?_; rintro e w4 ⟨rfl, f4⟩; have O4 := O3'.on f4; have l4' := Nat.lt_of_lt_of_le x9 f4.size)
        | (go_at_call 14; refine (small_any c _ (by exact O4)).mono ?_; rintro e w5 ⟨rfl, f5⟩))
    go_wp2
    go_ret
    exact ⟨rfl, belowT (belowT (belowD b3) f4) f5⟩

/-! ### The frame of the row -/
set_option maxRecDepth 100000 in
theorem lifted (os : Os) (started : os.Started) (H : Type) (enc : TypeId × Value → H) :
    ReturnsInHanded {} Try.checked os 7 .any (Rows.confMostSpec.pre6 enc Try.prog Try.f7 Rows.confMostRow.domain false) (Rows.confMostSpec.post enc Try.prog Try.f7 false true false false) := by
  refine returnsInHanded_of_change (C := Try.checked) own started (by kernel_rfl) Try.func7
    (ChangeSpec.witness6 (enc := enc) (C := Try.checked) false ⟨#[], #[.agg #[.int .i64 0, .int .i64 0, .slice none 0 0, .slice none 0 0, .int .i64 0, .int .i64 0, .int .i64 0, .int .i64 0]], []⟩ 8 (by kernel_rfl) (by kernel_rfl) (by kernel_rfl) (by kernel_rfl)) ?_
  intro W base args ds gs before hval0 hW hcnd _
  have hval : ∀ (j : Nat) t v, Try.f7.params[j]? = some t → args[j]? = some v → Value.okWide Try.prog W .any base t v := hval0
  have hW' := hW
  obtain ⟨p, q, hA0, hV, rfl, hfz, hnd⟩ := hW
  have hA : DataW.TrodAll enc Try.prog W 0 (fun _ => true) true Try.f7.params.toList args.toList ds p := hA0
  rw [Try.params7] at hA hval
  obtain ⟨v0, vs0, d0, ds0, p0, q0, hargs, rfl, rfl, h0, r0⟩ := trodAll_cons hA
  obtain ⟨rfl, rfl, rfl⟩ := trodAll_nil r0
  obtain rfl : args = #[v0] := by cases args; simp_all
  obtain ⟨rfl, rfl⟩ := trodVars_none hV
  have k0 := h0
  have lt0 : ∀ x ∈ p0, x.block < W.heap.size := by obtain ⟨m, hm⟩ := k0; exact DataW.trod_lt m _ _ _ hm
  obtain ⟨c, rfl, hc, hcc, hkc⟩ := open_conf (hval 0 24 v0 rfl rfl) h0
  clear hA0 hval0
  refine (walk c W hc hcc hkc).mono fun e W' ⟨he, bel⟩ => ?_
  subst he
  exact ⟨_, rfl, _, _, _, [], _, [], hW', trodAll_mk1 (shut_bool Try.underlying4 _), (trodAll_cons_mk (Below.trod laidOut (by kernel_rfl) (of_decide_eq_true (by kernel_rfl)) k0 bel lt0) trodAll_mk0), rfl, bel.frame _, fun h => by cases h⟩

theorem over : Rows.confMostRow.holds Try.pinned (OpenSpec.ofChange Rows.confMostSpec) :=
  OpenClaim.holds_of_wide 7 Try.f7 rfl rfl rfl rfl rfl rfl rfl ⟨rfl, rfl, rfl, rfl, rfl⟩ rfl rfl rfl rfl rfl (by kernel_rfl) Try.func7 (by kernel_rfl)
    (of_decide_eq_true (by kernel_rfl)) (by unfold Func.isWrapper; first | (rw [if_pos (by decide +kernel)]; kernel_rfl) | (rw [if_neg (by decide +kernel)]; exact ⟨rfl, rfl⟩))
    (fun os started H enc _ => lifted os started H enc)

theorem proved : Rows.ConfMostSaid := over
#print axioms proved
end Go.Proofs.Ytkdnbaafdhicjaa.confMost
