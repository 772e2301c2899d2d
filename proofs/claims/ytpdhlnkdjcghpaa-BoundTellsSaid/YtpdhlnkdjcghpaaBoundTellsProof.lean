/-
  almerylaw18.BoundTells returns true for every layout and every int, and all memory that was there is as it was. No condition.
-/
import Derived.Test.YtpdhlnkdjcghpaaRows
import Derived.WalkKit
import Derived.ProofKit
import Derived.OpenShut
import Derived.Test.YtpdhlnkdjcghpaaBoundAwake
import Derived.Test.YtpdhlnkdjcghpaaBoundRefFree
import Derived.Test.YtpdhlnkdjcghpaaConfRefMay
import Derived.Test.YtpdhlnkdjcghpaaConfOpen
import Derived.ShutString
import Derived.ChangeOld
import Derived.Below
namespace Go.Proofs.Ytpdhlnkdjcghpaa.boundTells
open Go.ChangeShapes Go.WideShapes Go.ChangeAt Go.RowKit
open Go.ChangeMaps (open_string shut_string)
set_option linter.unusedVariables false

theorem own : ownKnob Try.prog.godebug = none := by kernel_rfl
theorem laidOut : laidOutB Try.prog = true := by kernel_rfl

/-! ### The walk -/
set_option maxRecDepth 20000 in
set_option maxHeartbeats 2000000 in
theorem walk (c : Cf) (s : Int) (w : World) (hc : c.Ok w w.heap.size) (hcc : c.cn ≤ c.cc) (hkc : c.kn ≤ c.kc) (hs : (Lit.int .i64 s).wf = true) :
    Calls Try.prog 3 #[.agg #[.int .i64 c.size, .int .i64 c.pages, .slice c.ca c.cn c.cc, .slice c.ka c.kn c.kc, .int .i64 c.step, .int .i64 c.slots, .int .i64 c.gens, .int .i64 c.most], .int .i64 s] w fun e w' => e = .returned (.bool true) ∧ Below w.heap.size w w' := by
  have B0 := Boxed.new w c
  have b0 := below1 w (.cells #[.int .i64 c.size, .int .i64 c.pages, .slice c.ca c.cn c.cc, .slice c.ka c.kn c.kc, .int .i64 c.step, .int .i64 c.slots, .int .i64 c.gens, .int .i64 c.most] 24)
  have O0 := hc.on b0
  have hs2 : Fit s := wf_i64 hs
  clear hc hs
  go_enter Try.func3, Try.ntmps3
  go_wp2_with fail
  refine (awake18_any _).mono ?_
  rintro e w1 ⟨rfl, f1⟩
  have B1 := B0.on f1
  have O1 := Lib.hid (O0.on f1)
  have b1 := Lib.hid (belowT b0 f1)
  clear f1 B0 O0 b0
  have ⟨x0, x1, x2, x3, x4, x5, x6, x7, x8⟩ := B1
  have HM := refConfMay_any c w1 O1.out
  cases hB : confB c with
  | false =>
    rw [confMay_off hB] at HM
    have H := Lib.hid HM
    clear HM hB
    go_wp2_with fail
    refine H.out.mono ?_
    rintro e w2 ⟨rfl, f2⟩
    go_wp2
    go_ret
    exact ⟨rfl, belowT b1.out f2⟩
  | true =>
    rw [confMay_on hB] at HM
    have H := Lib.hid HM
    have M := Lib.hid (mayC hB)
    clear HM hB
    go_wp2_with fail
    refine H.out.mono ?_
    rintro e W ⟨rfl, f2⟩
    have B2 := B1.on f2
    have O2 := Lib.hid (fun v (hv : Below W.heap.size W v) => (O1.out.on f2).on hv)
    have b2 := Lib.hid (belowT b1.out f2)
    clear f2 b1 O1 B1 H x0 x1 x2 x3 x4 x5 x6 x7 x8
    have ⟨x0, x1, x2, x3, x4, x5, x6, x7, x8⟩ := B2
    have A1 := Lib.hid (fun v (hv : Below W.heap.size W v) => alloc_any (O2.out v hv) M.out hs2)
    have A2 := Lib.hid (fun v (hv : Below W.heap.size W v) => refAlloc_any (O2.out v hv) M.out hs2)
    have F1 := Lib.hid (fun v (hv : Below W.heap.size W v) => free_any (O2.out v hv) M.out hs2)
    have F2 := Lib.hid (fun v (hv : Below W.heap.size W v) => refFree_any (O2.out v hv) M.out hs2)
    have T1 := Lib.hid (fun v (hv : Below W.heap.size W v) => tick_any (O2.out v hv) M.out)
    have T2 := Lib.hid (fun v (hv : Below W.heap.size W v) => refTick_any (O2.out v hv) M.out)
    clear O2 M hs2 B2
    generalize allocB c s = p at *
    generalize freeB c s = q at *
    generalize tickB c = r at *
    have kW : W.cell? ⟨w.heap.size, 0, none⟩ = some (.int .i64 c.size) ∧ W.cell? ⟨w.heap.size, 1, none⟩ = some (.int .i64 c.pages) ∧
        W.cell? ⟨w.heap.size, 2, none⟩ = some (.slice c.ca c.cn c.cc) ∧ W.cell? ⟨w.heap.size, 3, none⟩ = some (.slice c.ka c.kn c.kc) ∧
        W.cell? ⟨w.heap.size, 4, none⟩ = some (.int .i64 c.step) ∧ W.cell? ⟨w.heap.size, 5, none⟩ = some (.int .i64 c.slots) ∧
        W.cell? ⟨w.heap.size, 6, none⟩ = some (.int .i64 c.gens) ∧ W.cell? ⟨w.heap.size, 7, none⟩ = some (.int .i64 c.most) := ⟨x0, x1, x2, x3, x4, x5, x6, x7⟩
    have cD : Below W.heap.size W W.drew := belowD (Below.refl _ _)
    have kD := keep8 cD x8 kW
    clear x0 x1 x2 x3 x4 x5 x6 x7
    go_wp2_with fail
    go_region_held3 (fun w' => w'.cell? ⟨w.heap.size, 0, none⟩ = some (.int .i64 c.size) ∧ w'.cell? ⟨w.heap.size, 1, none⟩ = some (.int .i64 c.pages) ∧
        w'.cell? ⟨w.heap.size, 2, none⟩ = some (.slice c.ca c.cn c.cc) ∧ w'.cell? ⟨w.heap.size, 3, none⟩ = some (.slice c.ka c.kn c.kc) ∧
        w'.cell? ⟨w.heap.size, 4, none⟩ = some (.int .i64 c.step) ∧ w'.cell? ⟨w.heap.size, 5, none⟩ = some (.int .i64 c.slots) ∧
        w'.cell? ⟨w.heap.size, 6, none⟩ = some (.int .i64 c.gens) ∧ w'.cell? ⟨w.heap.size, 7, none⟩ = some (.int .i64 c.most))
      (first | with_reducible exact kD | with_reducible exact kW | with_reducible exact k3 | with_reducible exact k4 | with_reducible exact k5 | with_reducible exact k6 | with_reducible exact k7 | with_reducible exact k8)
      (first
        | (go_at_call 7; refine (A1.out _ cD).mono ?_; rintro e w3 ⟨rfl, f3⟩; have c3 := belowT cD f3; have k3 := keep8 c3 x8 kW)
        | (go_at_call 8; refine (A2.out _ c3).mono ?_; rintro e w4 ⟨rfl, f4⟩; have c4 := belowT c3 f4; have k4 := keep8 c4 x8 kW)
        | (go_at_call 9; refine (F1.out _ c4).mono ?_; rintro e w5 ⟨rfl, f5⟩; have c5 := belowT c4 f5; have k5 := keep8 c5 x8 kW)
        | (go_at_call 10; refine (F2.out _ c5).mono ?_; rintro e w6 ⟨rfl, f6⟩; have c6 := belowT c5 f6; have k6 := keep8 c6 x8 kW)
        | (go_at_call 11; refine (T1.out _ c6).mono ?_; rintro e w7 ⟨rfl, f7⟩; have c7 := belowT c6 f7; have k7 := keep8 c7 x8 kW)
        | (go_at_call 12; refine (T2.out _ c7).mono ?_; rintro e w8 ⟨rfl, f8⟩; have c8 := belowT c7 f8; have k8 := keep8 c8 x8 kW))
    have BF := Lib.hid (belowT b2.out c8)
    go_wp2
    go_ret
    exact ⟨rfl, BF.out⟩

/-! ### The frame of the row -/
set_option maxRecDepth 100000 in
theorem lifted (os : Os) (started : os.Started) (H : Type) (enc : TypeId × Value → H) :
    ReturnsInHanded {} Try.checked os 3 .any (Rows.boundTellsSpec.pre6 enc Try.prog Try.f3 Rows.boundTellsRow.domain false) (Rows.boundTellsSpec.post enc Try.prog Try.f3 false true false false) := by
  refine returnsInHanded_of_change (C := Try.checked) own started (by kernel_rfl) Try.func3
    (ChangeSpec.witness6 (enc := enc) (C := Try.checked) false ⟨#[], #[.agg #[.int .i64 0, .int .i64 0, .slice none 0 0, .slice none 0 0, .int .i64 0, .int .i64 0, .int .i64 0, .int .i64 0], .int .i64 0], []⟩ 8 (by kernel_rfl) (by kernel_rfl) (by kernel_rfl) (by kernel_rfl)) ?_
  intro W base args ds gs before hval0 hW hcnd _
  have hval : ∀ (j : Nat) t v, Try.f3.params[j]? = some t → args[j]? = some v → Value.okWide Try.prog W .any base t v := hval0
  have hW' := hW
  obtain ⟨p, q, hA0, hV, rfl, hfz, hnd⟩ := hW
  have hA : DataW.TrodAll enc Try.prog W 0 (fun _ => true) true Try.f3.params.toList args.toList ds p := hA0
  rw [Try.params3] at hA hval
  obtain ⟨v0, vs0, d0, ds0, p0, q0, hargs, rfl, rfl, h0, r0⟩ := trodAll_cons hA
  obtain ⟨v1, vs1, d1, ds1, p1, q1, rfl, rfl, rfl, h1, r1⟩ := trodAll_cons r0
  obtain ⟨rfl, rfl, rfl⟩ := trodAll_nil r1
  obtain rfl : args = #[v0, v1] := by cases args; simp_all
  obtain ⟨rfl, rfl⟩ := trodVars_none hV
  have k0 := h0
  have lt0 : ∀ x ∈ p0, x.block < W.heap.size := by obtain ⟨m, hm⟩ := k0; exact DataW.trod_lt m _ _ _ hm
  obtain ⟨c, rfl, hc, hcc, hkc⟩ := open_conf (hval 0 24 v0 rfl rfl) h0
  obtain ⟨s, rfl, rfl, rfl, hs⟩ := open_int Try.underlying3 (hval 1 3 v1 rfl rfl) h1
  clear hA0 hval0
  refine (walk c s W hc hcc hkc hs).mono fun e W' ⟨he, bel⟩ => ?_
  subst he
  exact ⟨_, rfl, _, _, _, [], _, [], hW', trodAll_mk1 (shut_bool Try.underlying4 _), (trodAll_cons_mk (Below.trod laidOut (by kernel_rfl) (of_decide_eq_true (by kernel_rfl)) k0 bel lt0) (trodAll_cons_mk (shut_int Try.underlying3 hs) trodAll_mk0)), rfl, bel.frame _, fun h => by cases h⟩

theorem over : Rows.boundTellsRow.holds Try.pinned (OpenSpec.ofChange Rows.boundTellsSpec) :=
  OpenClaim.holds_of_wide 3 Try.f3 rfl rfl rfl rfl rfl rfl rfl ⟨rfl, rfl, rfl, rfl, rfl⟩ rfl rfl rfl rfl rfl (by kernel_rfl) Try.func3 (by kernel_rfl)
    (of_decide_eq_true (by kernel_rfl)) (by unfold Func.isWrapper; first | (rw [if_pos (by decide +kernel)]; kernel_rfl) | (rw [if_neg (by decide +kernel)]; exact ⟨rfl, rfl⟩))
    (fun os started H enc _ => lifted os started H enc)

theorem proved : Rows.BoundTellsSaid := over
#print axioms proved
end Go.Proofs.Ytpdhlnkdjcghpaa.boundTells
