/-
  PageNew: so many blocks, or what forbids them. No condition.
-/
import Derived.Test.YtglaohclbepmfaaRows
import Derived.WalkKit
import Derived.ProofKit
import Derived.OpenShut
import Derived.Test.YtglaohclbepmfaaPageRun
import Derived.ShutString
import Derived.ChangeOld
import Derived.Below
namespace Go.Proofs.Ytglaohclbepmfaa.pageNew
open Go.ChangeShapes Go.WideShapes Go.ChangeAt Go.RowKit
open Go.ChangeMaps (open_string shut_string)
set_option linter.unusedVariables false

theorem own : ownKnob Try.prog.godebug = none := by kernel_rfl
theorem laidOut : laidOutB Try.prog = true := by kernel_rfl

theorem hole_fresh {n : Nat} (h : 1 ≤ n) : holeOf (List.replicate n (-1)) = 0 := by
  unfold holeOf
  rw [used_new]
  exact low_at (i := 0) (by rw [List.length_replicate]; omega) (bt_none n 0) (fun j hj => by omega)
theorem top_fresh (n : Nat) : topOf (List.replicate n (-1)) = -1 := by
  unfold topOf
  rw [used_new]
  exact high_none (fun j => bt_none n j)
theorem used_fresh (n : Nat) : usedN (List.replicate n (-1)) = 0 := by
  unfold usedN
  rw [used_new, List.count_replicate]
  rfl

/-! ### The walk -/
set_option maxRecDepth 20000 in
set_option maxHeartbeats 1000000 in
theorem walk (blocks : Int) (w : World) (hblocks : (Lit.int .i64 blocks).wf = true) :
    Calls Try.prog 4 #[.int .i64 blocks] w fun e w' => e = .returned (.bool true) ∧ Below w.heap.size w w' := by
  have A := Lib.hid (awake12_any w)
  clear hblocks
  by_cases hm : blocks < 1 ∨ 512 < blocks
  · have HN := Lib.hid (pageNew_bad blocks hm)
    have HR := Lib.hid (refPageNew_bad blocks hm)
    clear hm
    go_enter Try.func4, Try.ntmps4
    go_wp2_with fail
    refine A.out.mono ?_
    rintro e w0 ⟨rfl, h0⟩
    have H0 := Lib.hid h0
    clear h0
    go_wp2_with fail
    refine (HN.out w0).mono ?_
    rintro e w1 ⟨rfl, rfl⟩
    go_wp2_with fail
    refine (HR.out w0).mono ?_
    rintro e w1 ⟨rfl, rfl⟩
    go_wp2
    go_ret
    exact ⟨rfl, H0.out⟩
  · obtain ⟨n, rfl⟩ : ∃ n : Nat, blocks = (n : Int) := ⟨blocks.toNat, by omega⟩
    have HN := Lib.hid (pageNew_ok (n : Int) (by omega) (by omega))
    have HR := Lib.hid (refPageNew_ok n (by omega) (by omega))
    have h1 : 1 ≤ n := by omega
    clear hm
    go_enter Try.func4, Try.ntmps4
    go_wp2_with fail
    refine A.out.mono ?_
    rintro e w0 ⟨rfl, h0⟩
    have H0 := Lib.hid h0
    clear h0
    go_wp2_with fail
    refine (HN.out w0).mono ?_
    rintro e w1 ⟨p, b, m, rfl, r1, b1, _⟩
    rw [Int.toNat_natCast] at r1
    have B1 := Lib.hid (belowT H0.out b1)
    have R1' := Lib.hid r1
    clear r1 b1
    go_wp2_with fail
    refine (HR.out w1).mono ?_
    rintro e w2 ⟨g, c, rfl, _, _, b2⟩
    have r2 := R1'.out.below b2
    have B2 := Lib.hid (belowT B1.out b2)
    have L1 : Hid (∀ v, Below w2.heap.size w2 v → Calls Try.prog 14 #[.pointer (some ⟨p, 0, none⟩)] v (IB 0 v)) := Lib.hid (fun v hv => by have := used_any (r2.below hv); rwa [used_fresh] at this)
    have L2 : Hid (∀ v, Below w2.heap.size w2 v → Calls Try.prog 15 #[.pointer (some ⟨p, 0, none⟩)] v (BB false v)) := Lib.hid (fun v hv => by have := full_any (r2.below hv); rwa [hole_fresh h1] at this)
    have L3 : Hid (∀ v, Below w2.heap.size w2 v → Calls Try.prog 16 #[.pointer (some ⟨p, 0, none⟩)] v (IB 0 v)) := Lib.hid (fun v hv => by have := hole_any (r2.below hv); rwa [hole_fresh h1] at this)
    have L4 : Hid (∀ v, Below w2.heap.size w2 v → Calls Try.prog 17 #[.pointer (some ⟨p, 0, none⟩)] v (IB (-1) v)) := Lib.hid (fun v hv => by have := top_any (r2.below hv); rwa [top_fresh] at this)
    clear r2 b2 R1' B1 HN HR A H0
    go_wp2_with fail
    refine (L1.out _ (Below.refl _ _)).mono ?_
    rintro e w3 ⟨rfl, b3⟩
    have B3 := Lib.hid b3
    clear b3
    go_wp2_with fail
    refine (L2.out _ B3.out).mono ?_
    rintro e w4 ⟨rfl, b4⟩
    have B4 := Lib.hid (belowT B3.out b4)
    clear b4 B3
    go_wp2_with fail
    refine (L3.out _ B4.out).mono ?_
    rintro e w5 ⟨rfl, b5⟩
    have B5 := Lib.hid (belowT B4.out b5)
    clear b5 B4
    go_wp2_with fail
    refine (L4.out _ B5.out).mono ?_
    rintro e w6 ⟨rfl, b6⟩
    have B6 := Lib.hid (belowT B2.out (belowT B5.out b6))
    clear b6 B5
    go_wp2
    go_ret
    exact ⟨rfl, B6.out⟩

/-! ### The frame of the row -/
set_option maxRecDepth 100000 in
theorem lifted (os : Os) (started : os.Started) (H : Type) (enc : TypeId × Value → H) :
    ReturnsInHanded {} Try.checked os 4 .any (Rows.pageNewSpec.pre6 enc Try.prog Try.f4 Rows.pageNewRow.domain false) (Rows.pageNewSpec.post enc Try.prog Try.f4 false true false false) := by
  refine returnsInHanded_of_change (C := Try.checked) own started (by kernel_rfl) Try.func4
    (ChangeSpec.witness6 (enc := enc) (C := Try.checked) false ⟨#[], #[.int .i64 0], []⟩ 8 (by kernel_rfl) (by kernel_rfl) (by kernel_rfl) (by kernel_rfl)) ?_
  intro W base args ds gs before hval0 hW hcnd _
  have hval : ∀ (j : Nat) t v, Try.f4.params[j]? = some t → args[j]? = some v → Value.okWide Try.prog W .any base t v := hval0
  have hW' := hW
  obtain ⟨p, q, hA0, hV, rfl, hfz, hnd⟩ := hW
  have hA : DataW.TrodAll enc Try.prog W 0 (fun _ => true) true Try.f4.params.toList args.toList ds p := hA0
  rw [Try.params4] at hA hval
  obtain ⟨v0, vs0, d0, ds0, p0, q0, hargs, rfl, rfl, h0, r0⟩ := trodAll_cons hA
  obtain ⟨rfl, rfl, rfl⟩ := trodAll_nil r0
  obtain rfl : args = #[v0] := by cases args; simp_all
  obtain ⟨rfl, rfl⟩ := trodVars_none hV
  obtain ⟨blocks, rfl, rfl, rfl, hblocks⟩ := open_int Try.underlying3 (hval 0 3 v0 rfl rfl) h0
  clear hA0 hval0
  refine (walk blocks W hblocks).mono fun e W' ⟨he, bel⟩ => ?_
  subst he
  exact ⟨_, rfl, _, _, _, [], _, [], hW', trodAll_mk1 (shut_bool Try.underlying4 _), (trodAll_cons_mk (shut_int Try.underlying3 hblocks) trodAll_mk0), rfl, bel.frame _, fun h => by cases h⟩

theorem over : Rows.pageNewRow.holds Try.pinned (OpenSpec.ofChange Rows.pageNewSpec) :=
  OpenClaim.holds_of_wide 4 Try.f4 rfl rfl rfl rfl rfl rfl rfl ⟨rfl, rfl, rfl, rfl, rfl⟩ rfl rfl rfl rfl rfl (by kernel_rfl) Try.func4 (by kernel_rfl)
    (of_decide_eq_true (by kernel_rfl)) (by unfold Func.isWrapper; first | (rw [if_pos (by decide +kernel)]; kernel_rfl) | (rw [if_neg (by decide +kernel)]; exact ⟨rfl, rfl⟩))
    (fun os started H enc _ => lifted os started H enc)

theorem proved : Rows.PageNewSaid := over
#print axioms proved
end Go.Proofs.Ytglaohclbepmfaa.pageNew
