/-
  Package move: New, Step, Wrote: what each tells, lays and charges; or what is wrong, and then nothing turns.
-/
import Derived.Test.YtadljlkflmodiaaMove
namespace Go.Proofs.Ytadljlkflmodiaa
open Go.ChangeShapes Go.WideShapes Go.ChangeAt Go.RowKit

theorem moveNew_nil (f t s : Int) (w : World) :
    Calls Try.prog 15 #[.pointer none, .int .i64 f, .int .i64 t, .int .i64 s] w fun e w' => e = .returned (.tuple #[.pointer none, .int .i64 1]) ∧ w = w' := by
  go_enter Try.func15, Try.ntmps15
  go_wp2
  go_ret2
  exact ⟨rfl, rfl⟩
section
variable {w : World} {q p b : Nat} {m : Option Nat} {xs : List Int} {tt l : Int}
theorem moveNew_bad (h : Ar w p b m xs tt l) (f t s : Int) (hs : -9223372036854775808 ≤ s ∧ s ≤ 9223372036854775807) (hn : ¬ mayMove xs.length f t s) :
    Calls Try.prog 15 #[.pointer (some ⟨p, 0, none⟩), .int .i64 f, .int .i64 t, .int .i64 s] w fun e w' => e = .returned (.tuple #[.pointer none, .int .i64 1]) ∧ w = w' := by
  have hmax := h.max
  by_cases h1 : s < 1
  · have d1 : decide (s < 1) = true := by simpa using h1
    clear h hn hmax
    go_enter Try.func15, Try.ntmps15
    go_wp2
    go_ret2
    exact ⟨rfl, rfl⟩
  · have d1 : decide (s < 1) = false := by simpa using h1
    have HF := Lib.hid (inside_any h f s (by omega))
    have HT := Lib.hid (inside_any h t s (by omega))
    by_cases h2 : 0 ≤ f ∧ f + s ≤ (xs.length : Int)
    · have e2 : Hid (decide (0 ≤ f ∧ f + s ≤ (xs.length : Int)) = true) := Lib.hid (by simpa using h2)
      by_cases h3 : 0 ≤ t ∧ t + s ≤ (xs.length : Int)
      · have e3 : Hid (decide (0 ≤ t ∧ t + s ≤ (xs.length : Int)) = true) := Lib.hid (by simpa using h3)
        have e4 : Hid (decide (max f t - min f t < s) = true) := Lib.hid (by
          rw [decide_eq_true_iff]
          have : ¬ (f + s ≤ t ∨ t + s ≤ f) := fun c => hn ⟨by omega, h2, h3, c⟩
          omega)
        have HM := Lib.hid (meet_any f t s w (by omega) (by omega))
        clear h hn h1 h2 h3 hmax
        go_enter Try.func15, Try.ntmps15
        go_wp2_with fail
        refine HF.out.mono ?_
        rw [e2.out]
        rintro e w' ⟨rfl, rfl⟩
        go_wp2_with fail
        refine HT.out.mono ?_
        rw [e3.out]
        rintro e w' ⟨rfl, rfl⟩
        go_wp2_with fail
        refine HM.out.mono ?_
        rw [e4.out]
        rintro e w' ⟨rfl, rfl⟩
        go_wp2
        go_ret2
        exact ⟨rfl, rfl⟩
      · have e3 : Hid (decide (0 ≤ t ∧ t + s ≤ (xs.length : Int)) = false) := Lib.hid (by rw [decide_eq_false_iff_not]; exact h3)
        clear h hn h1 h2 h3 hmax
        go_enter Try.func15, Try.ntmps15
        go_wp2_with fail
        refine HF.out.mono ?_
        rw [e2.out]
        rintro e w' ⟨rfl, rfl⟩
        go_wp2_with fail
        refine HT.out.mono ?_
        rw [e3.out]
        rintro e w' ⟨rfl, rfl⟩
        go_wp2
        go_ret2
        exact ⟨rfl, rfl⟩
    · have e2 : Hid (decide (0 ≤ f ∧ f + s ≤ (xs.length : Int)) = false) := Lib.hid (by rw [decide_eq_false_iff_not]; exact h2)
      clear h hn h1 h2 hmax
      go_enter Try.func15, Try.ntmps15
      go_wp2_with fail
      refine HF.out.mono ?_
      rw [e2.out]
      rintro e w' ⟨rfl, rfl⟩
      go_wp2
      go_ret2
      exact ⟨rfl, rfl⟩
theorem moveNew_ok (h : Ar w p b m xs tt l) (f t s : Nat) (hn : mayMove xs.length f t s) :
    Calls Try.prog 15 #[.pointer (some ⟨p, 0, none⟩), .int .i64 (f : Int), .int .i64 (t : Int), .int .i64 (s : Int)] w fun e w' => ∃ q, e = .returned (.tuple #[.pointer (some ⟨q, 0, none⟩), .int .i64 0]) ∧ Mw w' q p b m xs tt l f t s 0 ∧ Below w.heap.size w w' ∧ w.heap.size ≤ q := by
  have hmf : ∀ (fn : Fn) (first cap : Array Value) (w : World), (Instr.makeFunc fn first cap).run Try.prog w = .ok (.func fn first cap) w := fun _ _ _ _ => rfl
  have hmax := h.max
  obtain ⟨n1, n2, n3, n4⟩ := hn
  have d1 : decide ((s : Int) < 1) = false := by simp; omega
  have HF := Lib.hid (inside_any h f s (by omega))
  have HT := Lib.hid (inside_any h t s (by omega))
  have HM := Lib.hid (meet_any f t s w (by omega) (by omega))
  have e2 : Hid (decide ((0 : Int) ≤ (f : Int) ∧ (f : Int) + (s : Int) ≤ (xs.length : Int)) = true) := Lib.hid (by simpa using n2)
  have e3 : Hid (decide ((0 : Int) ≤ (t : Int) ∧ (t : Int) + (s : Int) ≤ (xs.length : Int)) = true) := Lib.hid (by simpa using n3)
  have e4 : Hid (decide (max (f : Int) (t : Int) - min (f : Int) (t : Int) < (s : Int)) = false) := Lib.hid (by rw [decide_eq_false_iff_not]; omega)
  have H := Lib.hid h
  have HN : Hid (f + s ≤ xs.length ∧ t + s ≤ xs.length) := Lib.hid (by omega)
  clear h n1 n2 n3 n4 hmax
  go_enter Try.func15, Try.ntmps15
  go_wp2_with fail
  refine HF.out.mono ?_
  rw [e2.out]
  rintro e w' ⟨rfl, rfl⟩
  go_wp2_with fail
  refine HT.out.mono ?_
  rw [e3.out]
  rintro e w' ⟨rfl, rfl⟩
  go_wp2_with fail
  refine HM.out.mono ?_
  rw [e4.out]
  rintro e w' ⟨rfl, rfl⟩
  go_wp2
  go_ret2
  have hA := H.out
  refine ⟨w.heap.size, rfl, ⟨⟨?_, ?_, ?_, ?_, ?_, ?_, Nat.zero_le _⟩, hA.below (below1 w _), ?_, ?_, ?_, HN.out.1, HN.out.2⟩, below1 w _, Nat.le_refl _⟩
  · go_simp
  · go_simp
  · go_simp
  · go_simp
  · go_simp
  · go_simp
  · have := hA.size; omega
  · have := hA.row.size; omega
  · intro e; have := (hA.mo _ e).size; omega

theorem step_nil (n : Int) (w : World) : Calls Try.prog 22 #[.pointer none, .int .i64 n] w (R1 0 w) := by
  go_enter Try.func22, Try.ntmps22
  go_wp2
  go_ret
  exact ⟨rfl, rfl⟩
theorem wrote_nil (at_ n : Int) (w : World) : Calls Try.prog 24 #[.pointer none, .int .i64 at_, .int .i64 n] w (R1 1 w) := by
  go_enter Try.func24, Try.ntmps24
  go_wp2
  go_ret
  exact ⟨rfl, rfl⟩
end
end Go.Proofs.Ytadljlkflmodiaa
