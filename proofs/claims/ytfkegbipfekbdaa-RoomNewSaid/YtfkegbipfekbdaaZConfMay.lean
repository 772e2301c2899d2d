import Derived.Test.YtfkegbipfekbdaaZClassMay
import Derived.Deep.RegionHeld3
import Derived.Deep.DeepCutAuto
import Derived.Laws.Pointers
/-
  May of package conf, met by a contract: of whatever layout comes in, it returns the plain answer 'confMay', and leaves all memory that was there as it was.
-/
namespace Go.Proofs.Ytfkegbipfekbdaa
open Go.ChangeShapes Go.WideShapes Go.ChangeAt Go.RowKit

/-- Block g holds what must be so of the layout. -/
def Must (c : Cf) (w : World) (s : Value) (wx : World) : Prop :=
  ∃ g : Nat, s = .pointer (some ⟨g, 0, none⟩) ∧ wx.cell? ⟨g, 0, none⟩ = some (.bool (sizeB c.size)) ∧ wx.cell? ⟨g, 1, none⟩ = some (.bool (inB c.pages 1 1024)) ∧
    wx.cell? ⟨g, 2, none⟩ = some (.bool (may c.xs c.size == 0)) ∧ wx.cell? ⟨g, 3, none⟩ = some (.bool (keepB c.ks c.cn)) ∧ wx.cell? ⟨g, 4, none⟩ = some (.bool (inB c.step 1 65536)) ∧
    wx.cell? ⟨g, 5, none⟩ = some (.bool (inB c.slots 1 4096)) ∧ wx.cell? ⟨g, 6, none⟩ = some (.bool (inB c.gens 1 1023)) ∧ wx.cell? ⟨g, 7, none⟩ = some (.bool (inB c.most 1 (large c.size))) ∧
    Below w.heap.size w wx

/-- The first k are so. -/
def MetTo (bs : List Bool) (k : Nat) : Prop := ∀ j, j < k → bs[j]? = some true
theorem MetTo.zero (bs : List Bool) : MetTo bs 0 := fun _ h => absurd h (by omega)
theorem MetTo.next {bs : List Bool} {k : Nat} (h : MetTo bs k) (hk : bs[k]? = some true) : MetTo bs (k + 1) := by
  intro j hj
  by_cases e : j = k
  · subst e; exact hk
  · exact h j (by omega)
theorem MetTo.all {b0 b1 b2 b3 b4 b5 b6 b7 : Bool} (h : MetTo [b0, b1, b2, b3, b4, b5, b6, b7] 8) : (b0 && (b1 && (b2 && (b3 && (b4 && (b5 && (b6 && b7))))))) = true := by
  have h0 := h 0 (by omega)
  have h1 := h 1 (by omega)
  have h2 := h 2 (by omega)
  have h3 := h 3 (by omega)
  have h4 := h 4 (by omega)
  have h5 := h 5 (by omega)
  have h6 := h 6 (by omega)
  have h7 := h 7 (by omega)
  simp at h0 h1 h2 h3 h4 h5 h6 h7
  simp [h0, h1, h2, h3, h4, h5, h6, h7]

theorem must_at0 (b0 b1 b2 b3 b4 b5 b6 b7 : Bool) (w : World) : (Instr.index 84 (.agg #[.bool b0, .bool b1, .bool b2, .bool b3, .bool b4, .bool b5, .bool b6, .bool b7]) (.int .i64 0)).run Try.prog w = .ok (.bool b0) w := by kernel_rfl
theorem must_at1 (b0 b1 b2 b3 b4 b5 b6 b7 : Bool) (w : World) : (Instr.index 84 (.agg #[.bool b0, .bool b1, .bool b2, .bool b3, .bool b4, .bool b5, .bool b6, .bool b7]) (.int .i64 1)).run Try.prog w = .ok (.bool b1) w := by kernel_rfl
theorem must_at2 (b0 b1 b2 b3 b4 b5 b6 b7 : Bool) (w : World) : (Instr.index 84 (.agg #[.bool b0, .bool b1, .bool b2, .bool b3, .bool b4, .bool b5, .bool b6, .bool b7]) (.int .i64 2)).run Try.prog w = .ok (.bool b2) w := by kernel_rfl
theorem must_at3 (b0 b1 b2 b3 b4 b5 b6 b7 : Bool) (w : World) : (Instr.index 84 (.agg #[.bool b0, .bool b1, .bool b2, .bool b3, .bool b4, .bool b5, .bool b6, .bool b7]) (.int .i64 3)).run Try.prog w = .ok (.bool b3) w := by kernel_rfl
theorem must_at4 (b0 b1 b2 b3 b4 b5 b6 b7 : Bool) (w : World) : (Instr.index 84 (.agg #[.bool b0, .bool b1, .bool b2, .bool b3, .bool b4, .bool b5, .bool b6, .bool b7]) (.int .i64 4)).run Try.prog w = .ok (.bool b4) w := by kernel_rfl
theorem must_at5 (b0 b1 b2 b3 b4 b5 b6 b7 : Bool) (w : World) : (Instr.index 84 (.agg #[.bool b0, .bool b1, .bool b2, .bool b3, .bool b4, .bool b5, .bool b6, .bool b7]) (.int .i64 5)).run Try.prog w = .ok (.bool b5) w := by kernel_rfl
theorem must_at6 (b0 b1 b2 b3 b4 b5 b6 b7 : Bool) (w : World) : (Instr.index 84 (.agg #[.bool b0, .bool b1, .bool b2, .bool b3, .bool b4, .bool b5, .bool b6, .bool b7]) (.int .i64 6)).run Try.prog w = .ok (.bool b6) w := by kernel_rfl
theorem must_at7 (b0 b1 b2 b3 b4 b5 b6 b7 : Bool) (w : World) : (Instr.index 84 (.agg #[.bool b0, .bool b1, .bool b2, .bool b3, .bool b4, .bool b5, .bool b6, .bool b7]) (.int .i64 7)).run Try.prog w = .ok (.bool b7) w := by kernel_rfl

set_option maxRecDepth 100000 in
set_option maxHeartbeats 3200000 in
theorem confMay_any (c : Cf) (w : World) (hc : c.Ok w w.heap.size) :
    Calls Try.prog 22 #[(.agg #[.int .i64 c.size, .int .i64 c.pages, .slice c.ca c.cn c.cc, .slice c.ka c.kn c.kc, .int .i64 c.step, .int .i64 c.slots, .int .i64 c.gens, .int .i64 c.most])] w (IB (confMay c) w) := by
  have HC := hc.classes
  have HK := hc.keep
  go_enter Try.func22, Try.ntmps22
  go_upto_region 1 with fail
  go_cut [3] (fun s3 wx => Must c w s3 wx)
  case first =>
    go_region_held3 (fun w' => w'.cell? ⟨w.heap.size, 0, none⟩ = some (.int .i64 c.size) ∧ w'.cell? ⟨w.heap.size, 1, none⟩ = some (.int .i64 c.pages) ∧
        w'.cell? ⟨w.heap.size, 2, none⟩ = some (.slice c.ca c.cn c.cc) ∧ w'.cell? ⟨w.heap.size, 3, none⟩ = some (.slice c.ka c.kn c.kc) ∧
        w'.cell? ⟨w.heap.size, 4, none⟩ = some (.int .i64 c.step) ∧ w'.cell? ⟨w.heap.size, 5, none⟩ = some (.int .i64 c.slots) ∧
        w'.cell? ⟨w.heap.size, 6, none⟩ = some (.int .i64 c.gens) ∧ w'.cell? ⟨w.heap.size, 7, none⟩ = some (.int .i64 c.most))
      (go_keep)
      (first
        | (go_at_call 47; refine (sizeMay_any _ _).mono ?_; rintro e w' ⟨rfl, rfl⟩)
        | (go_at_call 48; refine (within_any _ _ _ _).mono ?_; rintro e w' ⟨rfl, rfl⟩)
        | (go_at_call 49; refine (may_any _ _ _ c.xs _ w.heap.size _ (by repeat (first | exact HC | refine Ints.drew ?_ | refine Ints.alloc ?_ (by simp <;> omega) _))).mono ?_; rintro e w' ⟨rfl, rfl⟩)
        | (go_at_call 50; refine (keepMay_any _ _ _ c.ks _ w.heap.size _ (by repeat (first | exact HK | refine Ints.drew ?_ | refine Ints.alloc ?_ (by simp <;> omega) _))).mono ?_; rintro e w' ⟨rfl, rfl⟩)
        | (go_at_call 51; refine (large_any c _).mono ?_; rintro e w' ⟨rfl, rfl⟩))
    all_goals
      go_wp2_with fail
      go_meet
      exact ⟨_, rfl, by go_simp, by go_simp, by go_simp, by go_simp, by go_simp, by go_simp, by go_simp, by go_simp, by repeat (first | exact Below.refl _ _ | refine belowD ?_ | refine Below.setCell ?_ (by simp <;> omega) _ | refine Below.alloc ?_ (by simp <;> omega) _)⟩
  case rest =>
    obtain ⟨g, rfl, c0, c1, c2, c3, c4, c5, c6, c7, hb⟩ := hcut
    have HE : Hid (confB c = (sizeB c.size && (inB c.pages 1 1024 && ((may c.xs c.size == 0) && (keepB c.ks c.cn && (inB c.step 1 65536 && (inB c.slots 1 4096 && (inB c.gens 1 1023 && inB c.most 1 (large c.size))))))))) := Lib.hid (by rw [may_eq]; rfl)
    generalize sizeB c.size = b0 at *
    generalize inB c.pages 1 1024 = b1 at *
    generalize (may c.xs c.size == 0) = b2 at *
    generalize keepB c.ks c.cn = b3 at *
    generalize inB c.step 1 65536 = b4 at *
    generalize inB c.slots 1 4096 = b5 at *
    generalize inB c.gens 1 1023 = b6 at *
    generalize inB c.most 1 (large c.size) = b7 at *
    go_wp2
    go_loop [40] (fun i => ∃ k : Nat, k ≤ 8 ∧ i = .int .i64 k ∧ MetTo [b0, b1, b2, b3, b4, b5, b6, b7] k) (fun i => 8 - (intOf i).toNat)
    case atStart => exact ⟨0, by omega, rfl, MetTo.zero _⟩
    case round =>
      obtain ⟨k, hk, rfl, hl⟩ := hrel
      have hks : k = 0 ∨ k = 1 ∨ k = 2 ∨ k = 3 ∨ k = 4 ∨ k = 5 ∨ k = 6 ∨ k = 7 ∨ k = 8 := by omega
      rcases hks with rfl | rfl | rfl | rfl | rfl | rfl | rfl | rfl | rfl
      · cases b0 with
        | false =>
          have HF := Lib.hid (confMay_off (c := c) (by rw [HE.out]; simp))
          have hx := must_at0 false b1 b2 b3 b4 b5 b6 b7 wc
          clear hk hl
          go_wp2
          go_ret
          rw [HF.out]
          exact ⟨rfl, hb⟩
        | true =>
          have HN := hl.next (by rfl)
          have hx := must_at0 true b1 b2 b3 b4 b5 b6 b7 wc
          clear hk hl
          go_wp2
          go_round
          case rel => exact ⟨1, by omega, by go_num, HN⟩
          case measure => simp [intOf]
      · cases b1 with
        | false =>
          have HF := Lib.hid (confMay_off (c := c) (by rw [HE.out]; simp))
          have hx := must_at1 b0 false b2 b3 b4 b5 b6 b7 wc
          clear hk hl
          go_wp2
          go_ret
          rw [HF.out]
          exact ⟨rfl, hb⟩
        | true =>
          have HN := hl.next (by rfl)
          have hx := must_at1 b0 true b2 b3 b4 b5 b6 b7 wc
          clear hk hl
          go_wp2
          go_round
          case rel => exact ⟨2, by omega, by go_num, HN⟩
          case measure => simp [intOf]
      · cases b2 with
        | false =>
          have HF := Lib.hid (confMay_off (c := c) (by rw [HE.out]; simp))
          have hx := must_at2 b0 b1 false b3 b4 b5 b6 b7 wc
          clear hk hl
          go_wp2
          go_ret
          rw [HF.out]
          exact ⟨rfl, hb⟩
        | true =>
          have HN := hl.next (by rfl)
          have hx := must_at2 b0 b1 true b3 b4 b5 b6 b7 wc
          clear hk hl
          go_wp2
          go_round
          case rel => exact ⟨3, by omega, by go_num, HN⟩
          case measure => simp [intOf]
      · cases b3 with
        | false =>
          have HF := Lib.hid (confMay_off (c := c) (by rw [HE.out]; simp))
          have hx := must_at3 b0 b1 b2 false b4 b5 b6 b7 wc
          clear hk hl
          go_wp2
          go_ret
          rw [HF.out]
          exact ⟨rfl, hb⟩
        | true =>
          have HN := hl.next (by rfl)
          have hx := must_at3 b0 b1 b2 true b4 b5 b6 b7 wc
          clear hk hl
          go_wp2
          go_round
          case rel => exact ⟨4, by omega, by go_num, HN⟩
          case measure => simp [intOf]
      · cases b4 with
        | false =>
          have HF := Lib.hid (confMay_off (c := c) (by rw [HE.out]; simp))
          have hx := must_at4 b0 b1 b2 b3 false b5 b6 b7 wc
          clear hk hl
          go_wp2
          go_ret
          rw [HF.out]
          exact ⟨rfl, hb⟩
        | true =>
          have HN := hl.next (by rfl)
          have hx := must_at4 b0 b1 b2 b3 true b5 b6 b7 wc
          clear hk hl
          go_wp2
          go_round
          case rel => exact ⟨5, by omega, by go_num, HN⟩
          case measure => simp [intOf]
      · cases b5 with
        | false =>
          have HF := Lib.hid (confMay_off (c := c) (by rw [HE.out]; simp))
          have hx := must_at5 b0 b1 b2 b3 b4 false b6 b7 wc
          clear hk hl
          go_wp2
          go_ret
          rw [HF.out]
          exact ⟨rfl, hb⟩
        | true =>
          have HN := hl.next (by rfl)
          have hx := must_at5 b0 b1 b2 b3 b4 true b6 b7 wc
          clear hk hl
          go_wp2
          go_round
          case rel => exact ⟨6, by omega, by go_num, HN⟩
          case measure => simp [intOf]
      · cases b6 with
        | false =>
          have HF := Lib.hid (confMay_off (c := c) (by rw [HE.out]; simp))
          have hx := must_at6 b0 b1 b2 b3 b4 b5 false b7 wc
          clear hk hl
          go_wp2
          go_ret
          rw [HF.out]
          exact ⟨rfl, hb⟩
        | true =>
          have HN := hl.next (by rfl)
          have hx := must_at6 b0 b1 b2 b3 b4 b5 true b7 wc
          clear hk hl
          go_wp2
          go_round
          case rel => exact ⟨7, by omega, by go_num, HN⟩
          case measure => simp [intOf]
      · cases b7 with
        | false =>
          have HF := Lib.hid (confMay_off (c := c) (by rw [HE.out]; simp))
          have hx := must_at7 b0 b1 b2 b3 b4 b5 b6 false wc
          clear hk hl
          go_wp2
          go_ret
          rw [HF.out]
          exact ⟨rfl, hb⟩
        | true =>
          have HN := hl.next (by rfl)
          have hx := must_at7 b0 b1 b2 b3 b4 b5 b6 true wc
          clear hk hl
          go_wp2
          go_round
          case rel => exact ⟨8, by omega, by go_num, HN⟩
          case measure => simp [intOf]
      · have HF := Lib.hid (confMay_on (c := c) (by rw [HE.out]; exact MetTo.all hl))
        clear hk hl
        go_wp2
        go_ret
        rw [HF.out]
        exact ⟨rfl, hb⟩
end Go.Proofs.Ytfkegbipfekbdaa
