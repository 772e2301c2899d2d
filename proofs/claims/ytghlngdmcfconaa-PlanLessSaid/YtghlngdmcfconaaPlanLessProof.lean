/-
  PlanLess: where more may be open it takes no more moves; of one page, or none, none at all. No condition.
-/
import Derived.Test.YtghlngdmcfconaaRows
import Derived.WalkKit
import Derived.ProofKit
import Derived.OpenShut
import Derived.Test.YtghlngdmcfconaaPlanAwake
import Derived.Test.YtghlngdmcfconaaIntsField
import Derived.Test.YtghlngdmcfconaaTwo8
import Derived.ShutString
import Derived.ChangeOld
import Derived.Below
namespace Go.Proofs.Ytghlngdmcfconaa.planLess
open Go.ChangeShapes Go.WideShapes Go.ChangeAt Go.RowKit
open Go.ChangeMaps (open_string shut_string)
set_option linter.unusedVariables false

theorem own : ownKnob Try.prog.godebug = none := by kernel_rfl
theorem laidOut : laidOutB Try.prog = true := by kernel_rfl

open Go.Deep in
/-- 'l[:k]' is run so, of a nil slice too. -/
theorem cut_any (a : Option Addr) {n c k : Nat} (hk : k ≤ n) (hnc : n ≤ c) (v : World) :
    (Instr.sliceAt 22 (.slice a n c) none (some (.int .i64 (k : Int))) none).run Try.prog v = .ok (.slice a k c) v := by
  have hu : Try.prog.underlying 22 = some (.slice (Try.prog.elem 22)) := by kernel_rfl
  have hz : ∀ v, (sizeOf (Try.prog.elem 22)).run Try.prog v = .ok 1 v := fun v => by kernel_rfl
  rw [run_sliceAt_slice _ _ _ _ _ _ hu, run_slice_h _ _ _ _ _ hu _ _ (by omega) (by omega), hz]
  cases a with
  | none => simp [Result.andThen, sliced]
  | some p => simp [Result.andThen, sliced, Addr.add]

theorem cut_min (n : Nat) : (if 1 < n then 1 else n) ≤ n := by split <;> omega

/-! ### The walk -/
set_option maxRecDepth 20000 in
set_option maxHeartbeats 2000000 in
theorem walk (acounts : Option Addr) (lcounts ccounts : Nat) (counts : List Int) (blocks : Int) (keep0 keep1 : Int) (w : World) (hcounts : Ints w w.heap.size acounts lcounts counts) (hccounts : lcounts ≤ ccounts) (hblocks : (Lit.int .i64 blocks).wf = true) (hkeep0 : 0 ≤ keep0 ∧ keep0 ≤ 255) (hkeep1 : 0 ≤ keep1 ∧ keep1 ≤ 255) :
    Calls Try.prog 7 #[.slice acounts lcounts ccounts, .int .i64 blocks, .agg #[.int .u8 keep0, .int .u8 keep1]] w fun e w' => e = .returned (.bool true) ∧ Below w.heap.size w w' := by
  have A := Lib.hid fun v => awake14_any v
  have hb := wf_i64 hblocks
  have HI := Lib.hid hcounts
  have SM := Lib.hid fun v (hv : Ints v v.heap.size acounts lcounts counts) => small_any acounts lcounts ccounts counts blocks _ v hv
  have B0 := Lib.hid (below1 w (.cells #[.int .u8 keep0, .int .u8 keep1] 32))
  clear hcounts hblocks
  cases hs : smB blocks counts with
  | false =>
    rw [hs] at SM
    clear hs
    go_enter Try.func7, Try.ntmps7
    go_wp2_with fail
    refine (A.out _).mono ?_
    rintro e w0 ⟨rfl, h0⟩
    have b0 := belowT B0.out h0
    have I0 := Lib.hid (HI.out.on b0)
    have H0 := Lib.hid b0
    have c0 : w0.cell? ⟨w.heap.size, 0, none⟩ = some (.int .u8 keep0) := (h0.cell (p := ⟨w.heap.size, 0, none⟩) (by simp)).trans (by simp)
    have c1 : w0.cell? ⟨w.heap.size, 1, none⟩ = some (.int .u8 keep1) := (h0.cell (p := ⟨w.heap.size, 1, none⟩) (by simp)).trans (by simp)
    clear h0 b0
    go_wp2_with fail
    refine (SM.out _ I0.out).mono ?_
    rintro e w1 ⟨rfl, rfl⟩
    go_wp2
    go_ret
    exact ⟨rfl, H0.out⟩
  | true =>
    rw [hs] at SM
    have S := smB_on hs
    have hl := HI.out.len
    have h12 : lcounts ≤ 12 := by rw [← hl]; exact S.len
    have HM := fun (k : Int) (h0 : 0 ≤ k) (h1 : k ≤ 255) v (hv : Ints v v.heap.size acounts lcounts counts) => moves_any acounts lcounts ccounts counts blocks k v hv S (by omega)
    have HT : Hid (∀ v, Ints v v.heap.size acounts lcounts counts → Calls Try.prog 17 #[.slice acounts lcounts ccounts, .int .i64 blocks, .int .i64 12] v (IB 0 v)) := Lib.hid fun v hv => by
      have := HM 12 (by omega) (by omega) v hv
      rwa [movesN_off (by simp [dueB]; omega)] at this
    obtain ⟨L1, hL1⟩ : ∃ L1 : Nat, min lcounts 1 = L1 := ⟨_, rfl⟩
    have one : ∀ (k : Int), 0 ≤ k → k ≤ 255 → ∀ v, Ints v v.heap.size acounts lcounts counts → Calls Try.prog 17 #[.slice acounts L1 ccounts, .int .i64 blocks, .int .i64 k] v (IB 0 v) := fun k h0 h1 v hv => by
      have ht := hv.take (k := L1) (by omega)
      have := moves_off acounts L1 ccounts _ blocks k v ht (by omega) (by rw [ht.len]; simp [dueB]; omega)
      rwa [movesN_off (by rw [ht.len]; simp [dueB]; omega)] at this
    have CT := cut_any acounts (n := lcounts) (c := ccounts) (k := L1) (by omega) hccounts
    have LE := fun (k k' : Int) (h0 : 0 ≤ k) (hk : k ≤ k') => movesN_less (b := blocks) h0 hk counts S.may
    have wk0 : IntKind.i64.wrap keep0 = keep0 := IntWalk.i64_in _ (by omega)
    have wk1 : IntKind.i64.wrap keep1 = keep1 := IntWalk.i64_in _ (by omega)
    have z0 : ((0 : Int) == 0) = true := rfl
    clear hs S
    have cmp : (keep1 < keep0 ∧ ¬ keep0 < keep1) ∨ (¬ keep1 < keep0 ∧ keep0 < keep1) ∨ keep1 = keep0 := by omega
    have lcc : (1 < lcounts ∧ L1 = 1) ∨ (¬ 1 < lcounts ∧ L1 = lcounts) := by omega
    clear hL1
    rcases cmp with ⟨c1, c2⟩ | ⟨c1, c2⟩ | c1
    · skip
      have HA := Lib.hid (HM keep1 (by omega) (by omega))
      have HB := Lib.hid (HM keep0 (by omega) (by omega))
      have HO := Lib.hid (one keep1 (by omega) (by omega))
      have le := LE keep1 keep0 (by omega) (by omega)
      generalize movesN blocks keep1 counts = qa at HA le
      generalize movesN blocks keep0 counts = qb at HB le
      have dle : decide (qb ≤ qa) = true := decide_eq_true (by omega)
      clear le LE one HM
      rcases lcc with ⟨l1, le1⟩ | ⟨l1, le1⟩
      · rw [le1] at HO CT
        clear le1
        have l1' : (1 : Int) < (lcounts : Int) := by omega
        have ct : ∀ v, (Instr.sliceAt 22 (.slice acounts lcounts ccounts) none (some (.int .i64 1)) none).run Try.prog v = .ok (.slice acounts 1 ccounts) v := CT
        clear CT
        go_enter Try.func7, Try.ntmps7
        go_wp2_with fail
        refine (A.out _).mono ?_
        rintro e w0 ⟨rfl, h0⟩
        have b0 := belowT B0.out h0
        have I0 := Lib.hid (HI.out.on b0)
        have H0 := Lib.hid b0
        have c0 : w0.cell? ⟨w.heap.size, 0, none⟩ = some (.int .u8 keep0) := (h0.cell (p := ⟨w.heap.size, 0, none⟩) (by simp)).trans (by simp)
        have c1 : w0.cell? ⟨w.heap.size, 1, none⟩ = some (.int .u8 keep1) := (h0.cell (p := ⟨w.heap.size, 1, none⟩) (by simp)).trans (by simp)
        clear h0 b0
        go_wp2_with fail
        refine (SM.out _ I0.out).mono ?_
        rintro e w1 ⟨rfl, rfl⟩
        go_wp2_with fail
        refine (HB.out _ I0.out).mono ?_
        rintro e w2 ⟨rfl, b2⟩
        have I2 := Lib.hid (I0.out.on b2)
        have B2 := Lib.hid (belowT H0.out b2)
        clear b2
        go_wp2_with fail
        refine (HA.out _ I2.out).mono ?_
        rintro e w3 ⟨rfl, b3⟩
        have I3 := Lib.hid (I2.out.on b3)
        have B3 := Lib.hid (belowT B2.out b3)
        clear b3
        go_wp2_with fail
        refine (HO.out _ I3.out).mono ?_
        rintro e w4 ⟨rfl, b4⟩
        have I4 := Lib.hid (I3.out.on b4)
        have B4 := Lib.hid (belowT B3.out b4)
        clear b4
        go_wp2_with fail
        refine (HT.out _ I4.out).mono ?_
        rintro e w5 ⟨rfl, b5⟩
        have B5 := Lib.hid (belowT B4.out b5)
        clear b5
        go_wp2
        go_ret
        exact ⟨rfl, B5.out⟩
      · rw [le1] at HO CT
        clear le1
        have l1' : ¬ (1 : Int) < (lcounts : Int) := by omega
        have ct : ∀ v, (Instr.sliceAt 22 (.slice acounts lcounts ccounts) none (some (.int .i64 (lcounts : Int))) none).run Try.prog v = .ok (.slice acounts lcounts ccounts) v := CT
        clear CT
        go_enter Try.func7, Try.ntmps7
        go_wp2_with fail
        refine (A.out _).mono ?_
        rintro e w0 ⟨rfl, h0⟩
        have b0 := belowT B0.out h0
        have I0 := Lib.hid (HI.out.on b0)
        have H0 := Lib.hid b0
        have c0 : w0.cell? ⟨w.heap.size, 0, none⟩ = some (.int .u8 keep0) := (h0.cell (p := ⟨w.heap.size, 0, none⟩) (by simp)).trans (by simp)
        have c1 : w0.cell? ⟨w.heap.size, 1, none⟩ = some (.int .u8 keep1) := (h0.cell (p := ⟨w.heap.size, 1, none⟩) (by simp)).trans (by simp)
        clear h0 b0
        go_wp2_with fail
        refine (SM.out _ I0.out).mono ?_
        rintro e w1 ⟨rfl, rfl⟩
        go_wp2_with fail
        refine (HB.out _ I0.out).mono ?_
        rintro e w2 ⟨rfl, b2⟩
        have I2 := Lib.hid (I0.out.on b2)
        have B2 := Lib.hid (belowT H0.out b2)
        clear b2
        go_wp2_with fail
        refine (HA.out _ I2.out).mono ?_
        rintro e w3 ⟨rfl, b3⟩
        have I3 := Lib.hid (I2.out.on b3)
        have B3 := Lib.hid (belowT B2.out b3)
        clear b3
        go_wp2_with fail
        refine (HO.out _ I3.out).mono ?_
        rintro e w4 ⟨rfl, b4⟩
        have I4 := Lib.hid (I3.out.on b4)
        have B4 := Lib.hid (belowT B3.out b4)
        clear b4
        go_wp2_with fail
        refine (HT.out _ I4.out).mono ?_
        rintro e w5 ⟨rfl, b5⟩
        have B5 := Lib.hid (belowT B4.out b5)
        clear b5
        go_wp2
        go_ret
        exact ⟨rfl, B5.out⟩
    · skip
      have HA := Lib.hid (HM keep0 (by omega) (by omega))
      have HB := Lib.hid (HM keep1 (by omega) (by omega))
      have HO := Lib.hid (one keep0 (by omega) (by omega))
      have le := LE keep0 keep1 (by omega) (by omega)
      generalize movesN blocks keep0 counts = qa at HA le
      generalize movesN blocks keep1 counts = qb at HB le
      have dle : decide (qb ≤ qa) = true := decide_eq_true (by omega)
      clear le LE one HM
      rcases lcc with ⟨l1, le1⟩ | ⟨l1, le1⟩
      · rw [le1] at HO CT
        clear le1
        have l1' : (1 : Int) < (lcounts : Int) := by omega
        have ct : ∀ v, (Instr.sliceAt 22 (.slice acounts lcounts ccounts) none (some (.int .i64 1)) none).run Try.prog v = .ok (.slice acounts 1 ccounts) v := CT
        clear CT
        go_enter Try.func7, Try.ntmps7
        go_wp2_with fail
        refine (A.out _).mono ?_
        rintro e w0 ⟨rfl, h0⟩
        have b0 := belowT B0.out h0
        have I0 := Lib.hid (HI.out.on b0)
        have H0 := Lib.hid b0
        have c0 : w0.cell? ⟨w.heap.size, 0, none⟩ = some (.int .u8 keep0) := (h0.cell (p := ⟨w.heap.size, 0, none⟩) (by simp)).trans (by simp)
        have c1 : w0.cell? ⟨w.heap.size, 1, none⟩ = some (.int .u8 keep1) := (h0.cell (p := ⟨w.heap.size, 1, none⟩) (by simp)).trans (by simp)
        clear h0 b0
        go_wp2_with fail
        refine (SM.out _ I0.out).mono ?_
        rintro e w1 ⟨rfl, rfl⟩
        go_wp2_with fail
        refine (HB.out _ I0.out).mono ?_
        rintro e w2 ⟨rfl, b2⟩
        have I2 := Lib.hid (I0.out.on b2)
        have B2 := Lib.hid (belowT H0.out b2)
        clear b2
        go_wp2_with fail
        refine (HA.out _ I2.out).mono ?_
        rintro e w3 ⟨rfl, b3⟩
        have I3 := Lib.hid (I2.out.on b3)
        have B3 := Lib.hid (belowT B2.out b3)
        clear b3
        go_wp2_with fail
        refine (HO.out _ I3.out).mono ?_
        rintro e w4 ⟨rfl, b4⟩
        have I4 := Lib.hid (I3.out.on b4)
        have B4 := Lib.hid (belowT B3.out b4)
        clear b4
        go_wp2_with fail
        refine (HT.out _ I4.out).mono ?_
        rintro e w5 ⟨rfl, b5⟩
        have B5 := Lib.hid (belowT B4.out b5)
        clear b5
        go_wp2
        go_ret
        exact ⟨rfl, B5.out⟩
      · rw [le1] at HO CT
        clear le1
        have l1' : ¬ (1 : Int) < (lcounts : Int) := by omega
        have ct : ∀ v, (Instr.sliceAt 22 (.slice acounts lcounts ccounts) none (some (.int .i64 (lcounts : Int))) none).run Try.prog v = .ok (.slice acounts lcounts ccounts) v := CT
        clear CT
        go_enter Try.func7, Try.ntmps7
        go_wp2_with fail
        refine (A.out _).mono ?_
        rintro e w0 ⟨rfl, h0⟩
        have b0 := belowT B0.out h0
        have I0 := Lib.hid (HI.out.on b0)
        have H0 := Lib.hid b0
        have c0 : w0.cell? ⟨w.heap.size, 0, none⟩ = some (.int .u8 keep0) := (h0.cell (p := ⟨w.heap.size, 0, none⟩) (by simp)).trans (by simp)
        have c1 : w0.cell? ⟨w.heap.size, 1, none⟩ = some (.int .u8 keep1) := (h0.cell (p := ⟨w.heap.size, 1, none⟩) (by simp)).trans (by simp)
        clear h0 b0
        go_wp2_with fail
        refine (SM.out _ I0.out).mono ?_
        rintro e w1 ⟨rfl, rfl⟩
        go_wp2_with fail
        refine (HB.out _ I0.out).mono ?_
        rintro e w2 ⟨rfl, b2⟩
        have I2 := Lib.hid (I0.out.on b2)
        have B2 := Lib.hid (belowT H0.out b2)
        clear b2
        go_wp2_with fail
        refine (HA.out _ I2.out).mono ?_
        rintro e w3 ⟨rfl, b3⟩
        have I3 := Lib.hid (I2.out.on b3)
        have B3 := Lib.hid (belowT B2.out b3)
        clear b3
        go_wp2_with fail
        refine (HO.out _ I3.out).mono ?_
        rintro e w4 ⟨rfl, b4⟩
        have I4 := Lib.hid (I3.out.on b4)
        have B4 := Lib.hid (belowT B3.out b4)
        clear b4
        go_wp2_with fail
        refine (HT.out _ I4.out).mono ?_
        rintro e w5 ⟨rfl, b5⟩
        have B5 := Lib.hid (belowT B4.out b5)
        clear b5
        go_wp2
        go_ret
        exact ⟨rfl, B5.out⟩
    · subst c1
      have c1 : ¬ keep1 < keep1 := by omega
      have HA := Lib.hid (HM keep1 (by omega) (by omega))
      have HB := Lib.hid (HM keep1 (by omega) (by omega))
      have HO := Lib.hid (one keep1 (by omega) (by omega))
      have le := LE keep1 keep1 (by omega) (by omega)
      generalize movesN blocks keep1 counts = qa at HA HB le
      have dle : decide (qa ≤ qa) = true := decide_eq_true (by omega)
      clear le LE one HM
      rcases lcc with ⟨l1, le1⟩ | ⟨l1, le1⟩
      · rw [le1] at HO CT
        clear le1
        have l1' : (1 : Int) < (lcounts : Int) := by omega
        have ct : ∀ v, (Instr.sliceAt 22 (.slice acounts lcounts ccounts) none (some (.int .i64 1)) none).run Try.prog v = .ok (.slice acounts 1 ccounts) v := CT
        clear CT
        go_enter Try.func7, Try.ntmps7
        go_wp2_with fail
        refine (A.out _).mono ?_
        rintro e w0 ⟨rfl, h0⟩
        have b0 := belowT B0.out h0
        have I0 := Lib.hid (HI.out.on b0)
        have H0 := Lib.hid b0
        have c0 : w0.cell? ⟨w.heap.size, 0, none⟩ = some (.int .u8 keep1) := (h0.cell (p := ⟨w.heap.size, 0, none⟩) (by simp)).trans (by simp)
        have c1 : w0.cell? ⟨w.heap.size, 1, none⟩ = some (.int .u8 keep1) := (h0.cell (p := ⟨w.heap.size, 1, none⟩) (by simp)).trans (by simp)
        clear h0 b0
        go_wp2_with fail
        refine (SM.out _ I0.out).mono ?_
        rintro e w1 ⟨rfl, rfl⟩
        go_wp2_with fail
        refine (HB.out _ I0.out).mono ?_
        rintro e w2 ⟨rfl, b2⟩
        have I2 := Lib.hid (I0.out.on b2)
        have B2 := Lib.hid (belowT H0.out b2)
        clear b2
        go_wp2_with fail
        refine (HA.out _ I2.out).mono ?_
        rintro e w3 ⟨rfl, b3⟩
        have I3 := Lib.hid (I2.out.on b3)
        have B3 := Lib.hid (belowT B2.out b3)
        clear b3
        go_wp2_with fail
        refine (HO.out _ I3.out).mono ?_
        rintro e w4 ⟨rfl, b4⟩
        have I4 := Lib.hid (I3.out.on b4)
        have B4 := Lib.hid (belowT B3.out b4)
        clear b4
        go_wp2_with fail
        refine (HT.out _ I4.out).mono ?_
        rintro e w5 ⟨rfl, b5⟩
        have B5 := Lib.hid (belowT B4.out b5)
        clear b5
        go_wp2
        go_ret
        exact ⟨rfl, B5.out⟩
      · rw [le1] at HO CT
        clear le1
        have l1' : ¬ (1 : Int) < (lcounts : Int) := by omega
        have ct : ∀ v, (Instr.sliceAt 22 (.slice acounts lcounts ccounts) none (some (.int .i64 (lcounts : Int))) none).run Try.prog v = .ok (.slice acounts lcounts ccounts) v := CT
        clear CT
        go_enter Try.func7, Try.ntmps7
        go_wp2_with fail
        refine (A.out _).mono ?_
        rintro e w0 ⟨rfl, h0⟩
        have b0 := belowT B0.out h0
        have I0 := Lib.hid (HI.out.on b0)
        have H0 := Lib.hid b0
        have c0 : w0.cell? ⟨w.heap.size, 0, none⟩ = some (.int .u8 keep1) := (h0.cell (p := ⟨w.heap.size, 0, none⟩) (by simp)).trans (by simp)
        have c1 : w0.cell? ⟨w.heap.size, 1, none⟩ = some (.int .u8 keep1) := (h0.cell (p := ⟨w.heap.size, 1, none⟩) (by simp)).trans (by simp)
        clear h0 b0
        go_wp2_with fail
        refine (SM.out _ I0.out).mono ?_
        rintro e w1 ⟨rfl, rfl⟩
        go_wp2_with fail
        refine (HB.out _ I0.out).mono ?_
        rintro e w2 ⟨rfl, b2⟩
        have I2 := Lib.hid (I0.out.on b2)
        have B2 := Lib.hid (belowT H0.out b2)
        clear b2
        go_wp2_with fail
        refine (HA.out _ I2.out).mono ?_
        rintro e w3 ⟨rfl, b3⟩
        have I3 := Lib.hid (I2.out.on b3)
        have B3 := Lib.hid (belowT B2.out b3)
        clear b3
        go_wp2_with fail
        refine (HO.out _ I3.out).mono ?_
        rintro e w4 ⟨rfl, b4⟩
        have I4 := Lib.hid (I3.out.on b4)
        have B4 := Lib.hid (belowT B3.out b4)
        clear b4
        go_wp2_with fail
        refine (HT.out _ I4.out).mono ?_
        rintro e w5 ⟨rfl, b5⟩
        have B5 := Lib.hid (belowT B4.out b5)
        clear b5
        go_wp2
        go_ret
        exact ⟨rfl, B5.out⟩

/-! ### The frame of the row -/
set_option maxRecDepth 100000 in
theorem lifted (os : Os) (started : os.Started) (H : Type) (enc : TypeId × Value → H) :
    ReturnsInHanded {} Try.checked os 7 .any (Rows.planLessSpec.pre6 enc Try.prog Try.f7 Rows.planLessRow.domain false) (Rows.planLessSpec.post enc Try.prog Try.f7 false true false false) := by
  refine returnsInHanded_of_change (C := Try.checked) own started (by kernel_rfl) Try.func7
    (ChangeSpec.witness6 (enc := enc) (C := Try.checked) false ⟨#[], #[.slice none 0 0, .int .i64 0, .agg #[.int .u8 0, .int .u8 0]], []⟩ 8 (by kernel_rfl) (by kernel_rfl) (by kernel_rfl) (by kernel_rfl)) ?_
  intro W base args ds gs before hval0 hW hcnd _
  have hval : ∀ (j : Nat) t v, Try.f7.params[j]? = some t → args[j]? = some v → Value.okWide Try.prog W .any base t v := hval0
  have hW' := hW
  obtain ⟨p, q, hA0, hV, rfl, hfz, hnd⟩ := hW
  have hA : DataW.TrodAll enc Try.prog W 0 (fun _ => true) true Try.f7.params.toList args.toList ds p := hA0
  rw [Try.params7] at hA hval
  obtain ⟨v0, vs0, d0, ds0, p0, q0, hargs, rfl, rfl, h0, r0⟩ := trodAll_cons hA
  obtain ⟨v1, vs1, d1, ds1, p1, q1, rfl, rfl, rfl, h1, r1⟩ := trodAll_cons r0
  obtain ⟨v2, vs2, d2, ds2, p2, q2, rfl, rfl, rfl, h2, r2⟩ := trodAll_cons r1
  obtain ⟨rfl, rfl, rfl⟩ := trodAll_nil r2
  obtain rfl : args = #[v0, v1, v2] := by cases args; simp_all
  obtain ⟨rfl, rfl⟩ := trodVars_none hV
  have k0 := h0
  have lt0 : ∀ x ∈ p0, x.block < W.heap.size := by obtain ⟨m, hm⟩ := k0; exact DataW.trod_lt m _ _ _ hm
  obtain ⟨acounts, lcounts, ccounts, rfl⟩ := okWide_slice Try.underlying22 (hval 0 22 v0 rfl rfl)
  obtain ⟨counts, hccounts, hcounts⟩ : ∃ xs, lcounts ≤ ccounts ∧ Ints W W.heap.size acounts lcounts xs := by
    obtain ⟨fuel, hf⟩ := h0
    obtain ⟨a, l, c, xs, e, hl, hi⟩ := ints_field (by simpa [Value.cells] using hf)
    injection e with e1 e2 e3
    subst e1 e2 e3
    exact ⟨xs, hl, hi⟩
  obtain ⟨blocks, rfl, rfl, rfl, hblocks⟩ := open_int Try.underlying3 (hval 1 3 v1 rfl rfl) h1
  have k2 := h2
  have lt2 : ∀ x ∈ p2, x.block < W.heap.size := by obtain ⟨m, hm⟩ := k2; exact DataW.trod_lt m _ _ _ hm
  obtain ⟨keep0, keep1, rfl, hkeep0, hkeep1⟩ := open_two (hval 2 32 v2 rfl rfl) h2
  clear hA0 hval0
  refine (walk acounts lcounts ccounts counts blocks keep0 keep1 W hcounts hccounts hblocks hkeep0 hkeep1).mono fun e W' ⟨he, bel⟩ => ?_
  subst he
  exact ⟨_, rfl, _, _, _, [], _, [], hW', trodAll_mk1 (shut_bool Try.underlying4 _), (trodAll_cons_mk (Below.trod laidOut (by kernel_rfl) (of_decide_eq_true (by kernel_rfl)) k0 bel lt0) (trodAll_cons_mk (shut_int Try.underlying3 hblocks) (trodAll_cons_mk (Below.trod laidOut (by kernel_rfl) (of_decide_eq_true (by kernel_rfl)) k2 bel lt2) trodAll_mk0))), rfl, bel.frame _, fun h => by cases h⟩

theorem over : Rows.planLessRow.holds Try.pinned (OpenSpec.ofChange Rows.planLessSpec) :=
  OpenClaim.holds_of_wide 7 Try.f7 rfl rfl rfl rfl rfl rfl rfl ⟨rfl, rfl, rfl, rfl, rfl⟩ rfl rfl rfl rfl rfl (by kernel_rfl) Try.func7 (by kernel_rfl)
    (of_decide_eq_true (by kernel_rfl)) (by unfold Func.isWrapper; first | (rw [if_pos (by decide +kernel)]; kernel_rfl) | (rw [if_neg (by decide +kernel)]; exact ⟨rfl, rfl⟩))
    (fun os started H enc _ => lifted os started H enc)

theorem proved : Rows.PlanLessSaid := over
#print axioms proved
end Go.Proofs.Ytghlngdmcfconaa.planLess
