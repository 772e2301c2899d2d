/-
  BitsNew: so many places, or what forbids them. No condition.
-/
import Derived.Test.YtbdjocoedcgfbaaRows
import Derived.WalkKit
import Derived.ProofKit
import Derived.OpenShut
import Derived.Test.YtbdjocoedcgfbaaBitsAny
import Derived.ShutString
import Derived.ChangeOld
import Derived.Below
namespace Go.Proofs.Ytbdjocoedcgfbaa.bitsNew
open Go.ChangeShapes Go.WideShapes Go.ChangeAt Go.RowKit
open Go.ChangeMaps (open_string shut_string)
set_option linter.unusedVariables false

theorem own : ownKnob Try.prog.godebug = none := by kernel_rfl
theorem laidOut : laidOutB Try.prog = true := by kernel_rfl

theorem low_fresh {n : Nat} (h : 1 ≤ n) : lowOf (List.replicate n false) = 0 := low_at (i := 0) (by rw [List.length_replicate]; omega) (bt_none n 0) (fun j hj => by omega)
theorem high_fresh (n : Nat) : highOf (List.replicate n false) = -1 := high_none (fun j => bt_none n j)
theorem count_fresh (n : Nat) : (List.replicate n false).count true = 0 := by
  rw [List.count_replicate]
  rfl

/-! ### The walk -/
set_option maxRecDepth 20000 in
set_option maxHeartbeats 1000000 in
theorem walk (many : Int) (w : World) (hmany : (Lit.int .i64 many).wf = true) :
    Calls Try.prog 4 #[.int .i64 many] w fun e w' => e = .returned (.bool true) ∧ Below w.heap.size w w' := by
  have A := Lib.hid (awake11_any w)
  clear hmany
  by_cases hm : many < 1 ∨ 512 < many
  · have HN := Lib.hid (new_bad many hm)
    have HR := Lib.hid (refNew_bad many hm)
    clear hm
    go_enter Try.func4, Try.ntmps4
    go_wp2_with fail
    refine A.out.mono ?_
    rintro e w0 ⟨rfl, h0⟩
    have H0 := Lib.hid h0
    clear h0
    go_wp2_with fail
    refine (HN.out w0).mono ?_
    rintro e w1 ⟨rfl, rfl⟩
    go_wp2_with fail
    refine (HR.out w0).mono ?_
    rintro e w1 ⟨rfl, rfl⟩
    go_wp2
    go_ret
    exact ⟨rfl, H0.out⟩
  · obtain ⟨n, rfl⟩ : ∃ n : Nat, many = (n : Int) := ⟨many.toNat, by omega⟩
    have HN := Lib.hid (new_ok (n : Int) (by omega) (by omega))
    have HR := Lib.hid (refNew_ok n (by omega) (by omega))
    have h1 : 1 ≤ n := by omega
    clear hm
    go_enter Try.func4, Try.ntmps4
    go_wp2_with fail
    refine A.out.mono ?_
    rintro e w0 ⟨rfl, h0⟩
    have H0 := Lib.hid h0
    clear h0
    go_wp2_with fail
    refine (HN.out w0).mono ?_
    rintro e w1 ⟨rfl, r1, b1, _⟩
    rw [Int.toNat_natCast] at r1
    have B1 := Lib.hid (belowT H0.out b1)
    have R1' := Lib.hid r1
    clear r1 b1
    go_wp2_with fail
    refine (HR.out w1).mono ?_
    rintro e w2 ⟨rfl, _, b2⟩
    have r2 := R1'.out.below b2
    have B2 := Lib.hid (belowT B1.out b2)
    have L1 : Hid (Calls Try.prog 16 #[.pointer (some ⟨w0.heap.size, 0, none⟩)] w2 (R1 0 w2)) := Lib.hid (by have := low_any r2; rwa [low_fresh h1] at this)
    have L2 : Hid (Calls Try.prog 17 #[.pointer (some ⟨w0.heap.size, 0, none⟩)] w2 (R1 (-1) w2)) := Lib.hid (by have := high_any r2; rwa [high_fresh] at this)
    have L3 : Hid (Calls Try.prog 18 #[.pointer (some ⟨w0.heap.size, 0, none⟩)] w2 (R1 0 w2)) := Lib.hid (by have := count_any r2; rwa [count_fresh] at this)
    clear r2 b2
    go_wp2_with fail
    refine L1.out.mono ?_
    rintro e w3 ⟨rfl, rfl⟩
    go_wp2_with fail
    refine L2.out.mono ?_
    rintro e w3 ⟨rfl, rfl⟩
    go_wp2_with fail
    refine L3.out.mono ?_
    rintro e w3 ⟨rfl, rfl⟩
    go_wp2
    go_ret
    exact ⟨rfl, B2.out⟩

/-! ### The frame of the row -/
set_option maxRecDepth 100000 in
theorem lifted (os : Os) (started : os.Started) (H : Type) (enc : TypeId × Value → H) :
    ReturnsInHanded {} Try.checked os 4 .any (Rows.bitsNewSpec.pre6 enc Try.prog Try.f4 Rows.bitsNewRow.domain false) (Rows.bitsNewSpec.post enc Try.prog Try.f4 false true false false) := by
  refine returnsInHanded_of_change (C := Try.checked) own started (by kernel_rfl) Try.func4
    (ChangeSpec.witness6 (enc := enc) (C := Try.checked) false ⟨#[], #[.int .i64 0], []⟩ 8 (by kernel_rfl) (by kernel_rfl) (by kernel_rfl) (by kernel_rfl)) ?_
  intro W base args ds gs before hval0 hW hcnd _
  have hval : ∀ (j : Nat) t v, Try.f4.params[j]? = some t → args[j]? = some v → Value.okWide Try.prog W .any base t v := hval0
  have hW' := hW
  obtain ⟨p, q, hA0, hV, rfl, hfz, hnd⟩ := hW
  have hA : DataW.TrodAll enc Try.prog W 0 (fun _ => true) true Try.f4.params.toList args.toList ds p := hA0
  rw [Try.params4] at hA hval
  obtain ⟨v0, vs0, d0, ds0, p0, q0, hargs, rfl, rfl, h0, r0⟩ := trodAll_cons hA
  obtain ⟨rfl, rfl, rfl⟩ := trodAll_nil r0
  obtain rfl : args = #[v0] := by cases args; simp_all
  obtain ⟨rfl, rfl⟩ := trodVars_none hV
  obtain ⟨many, rfl, rfl, rfl, hmany⟩ := open_int Try.underlying3 (hval 0 3 v0 rfl rfl) h0
  clear hA0 hval0
  refine (walk many W hmany).mono fun e W' ⟨he, bel⟩ => ?_
  subst he
  exact ⟨_, rfl, _, _, _, [], _, [], hW', trodAll_mk1 (shut_bool Try.underlying4 _), (trodAll_cons_mk (shut_int Try.underlying3 hmany) trodAll_mk0), rfl, bel.frame _, fun h => by cases h⟩

theorem over : Rows.bitsNewRow.holds Try.pinned (OpenSpec.ofChange Rows.bitsNewSpec) :=
  OpenClaim.holds_of_wide 4 Try.f4 rfl rfl rfl rfl rfl rfl rfl ⟨rfl, rfl, rfl, rfl, rfl⟩ rfl rfl rfl rfl rfl (by kernel_rfl) Try.func4 (by kernel_rfl)
    (of_decide_eq_true (by kernel_rfl)) (by unfold Func.isWrapper; first | (rw [if_pos (by decide +kernel)]; kernel_rfl) | (rw [if_neg (by decide +kernel)]; exact ⟨rfl, rfl⟩))
    (fun os started H enc _ => lifted os started H enc)

theorem proved : Rows.BitsNewSaid := over
#print axioms proved
end Go.Proofs.Ytbdjocoedcgfbaa.bitsNew
