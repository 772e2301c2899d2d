/-
  The document's own answers for package arena (almeryref06): there, New: each met by a contract.
-/
import Derived.Test.YtadljlkflmodiaaArenaPart
import Derived.Deep.AppendLies
import Derived.Laws.OwnMore
import Derived.OwnWalk
import Derived.BigRegion
namespace Go.Proofs.Ytadljlkflmodiaa
open Go.ChangeShapes Go.WideShapes Go.ChangeAt Go.RowKit

theorem below3 (w : World) (a b c : Obj) : Below w.heap.size w (((w.alloc a).alloc b).alloc c) := (below2 w a b).alloc (by simp; omega) c

theorem refThere_any (a : Option Addr) (n c : Nat) (s at_ k : Int) (w : World) (hn : n ≤ 4194304) :
    Calls Try.prog 28 #[.agg #[.slice a n c, .int .i64 s], .int .i64 at_, .int .i64 k] w fun e w' => e = .returned (.bool (decide (thereB n at_ k))) ∧ w' = w.alloc (.cells #[.slice a n c, .int .i64 s] 35) := by
  by_cases h1 : 0 ≤ at_
  · have d1 : decide ((0 : Int) ≤ at_) = true := by simpa using h1
    by_cases h2 : 0 ≤ k
    · have d2 : decide ((0 : Int) ≤ k) = true := by simpa using h2
      by_cases h3 : k ≤ (n : Int)
      · have d3 : decide (k ≤ (n : Int)) = true := by simpa using h3
        have hw : IntKind.i64.wrap ((n : Int) - k) = (n : Int) - k := IntWalk.i64_in _ (by omega)
        by_cases h4 : at_ ≤ (n : Int) - k
        · have d4 : decide (at_ ≤ (n : Int) - k) = true := by simpa using h4
          rw [show decide (thereB n at_ k) = true by rw [decide_eq_true_iff]; exact ⟨h1, h2, by omega⟩]
          go_enter Try.func28, Try.ntmps28
          go_wp2
          go_ret
          exact ⟨rfl, rfl⟩
        · have d4 : decide (at_ ≤ (n : Int) - k) = false := by simpa using h4
          rw [show decide (thereB n at_ k) = false by rw [decide_eq_false_iff_not]; exact fun q => h4 (by have := q.2.2; omega)]
          go_enter Try.func28, Try.ntmps28
          go_wp2
          go_ret
          exact ⟨rfl, rfl⟩
      · have d3 : decide (k ≤ (n : Int)) = false := by simpa using h3
        rw [show decide (thereB n at_ k) = false by rw [decide_eq_false_iff_not]; exact fun q => h3 (by have := q.2.2; omega)]
        go_enter Try.func28, Try.ntmps28
        go_wp2
        go_ret
        exact ⟨rfl, rfl⟩
    · have d2 : decide ((0 : Int) ≤ k) = false := by simpa using h2
      rw [show decide (thereB n at_ k) = false by rw [decide_eq_false_iff_not]; exact fun q => h2 q.2.1]
      go_enter Try.func28, Try.ntmps28
      go_wp2
      go_ret
      exact ⟨rfl, rfl⟩
  · have d1 : decide ((0 : Int) ≤ at_) = false := by simpa using h1
    rw [show decide (thereB n at_ k) = false by rw [decide_eq_false_iff_not]; exact fun q => h1 q.1]
    go_enter Try.func28, Try.ntmps28
    go_wp2
    go_ret
    exact ⟨rfl, rfl⟩

theorem refNew_ok (pages size : Nat) (w : World) (h : may pages size) :
    Calls Try.prog 13 #[.int .i64 pages, .int .i64 size] w fun e w' => ∃ g, e = .returned (.tuple #[.agg #[.slice (some ⟨g, 0, none⟩) (pages * size) (pages * size), .int .i64 0], .int .i64 0]) ∧ Row w' g (List.replicate (pages * size) 0) ∧ Below w.heap.size w w' ∧ w.heap.size ≤ g := by
  obtain ⟨n, hn⟩ : ∃ n, n = pages * size := ⟨_, rfl⟩
  have hp := may_prod h
  obtain ⟨h1, h2, h3, h4, h5⟩ := h
  rw [← hn]
  rw [← hn] at hp
  have hc : (pages : Int) * (size : Int) = (n : Int) := by rw [hn]; simp
  have hw : IntKind.i64.wrap ((pages : Int) * (size : Int)) = (n : Int) := by rw [hc]; exact IntWalk.i64_in _ (by omega)
  have hmk : ∀ v, (Instr.makeSlice 22 (.int .i64 (n : Int)) (.int .i64 (n : Int))).run Try.prog v = .ok (.slice (some ⟨v.heap.size, 0, none⟩) n n) (v.alloc (zeros n)) := make_run n hp.1
  have e1 : decide ((pages : Int) < 1) = false := by simp; omega
  have e2 : decide ((1024 : Int) < (pages : Int)) = false := by simp; omega
  have e3 : decide ((size : Int) < 64) = false := by simp; omega
  have e4 : decide ((4096 : Int) < (size : Int)) = false := by simp; omega
  have e5 : ((size : Int) % 8 != 0) = false := by simp [h5]
  have HP := Lib.hid hp
  clear hn h1 h2 h3 h4 h5 hp hc
  go_enter Try.func13, Try.ntmps13
  go_wp2
  refine bodyPost_ret (v := .tuple #[.agg #[.slice (some ⟨w.heap.size + 1, 0, none⟩) n n, .int .i64 0], .int .i64 0]) (by simp [results, Try.results13, go_sem]) rfl ?_
  refine ⟨w.heap.size + 1, rfl, ?_, below2 w _ _, by omega⟩
  have := zeros_row (w.alloc (.cells #[.slice (some ⟨w.heap.size + 1, 0, none⟩) n n, .int .i64 0] 35)) n HP.out.1
  simpa using this
theorem refNew_bad (pages size : Int) (w : World) (h : ¬ may pages size) :
    Calls Try.prog 13 #[.int .i64 pages, .int .i64 size] w fun e w' => e = .returned (.tuple #[.agg #[.slice none 0 0, .int .i64 0], .int .i64 1]) ∧ Below w.heap.size w w' := by
  by_cases h1 : pages < 1
  · have e1 : decide (pages < 1) = true := by simpa using h1
    go_enter Try.func13, Try.ntmps13
    go_wp2
    refine bodyPost_ret (v := .tuple #[.agg #[.slice none 0 0, .int .i64 0], .int .i64 1]) (by simp [results, Try.results13, go_sem]) rfl ?_
    exact ⟨rfl, below1 w _⟩
  · have e1 : decide (pages < 1) = false := by simpa using h1
    by_cases h2 : 1024 < pages
    · have e2 : decide ((1024 : Int) < pages) = true := by simpa using h2
      go_enter Try.func13, Try.ntmps13
      go_wp2
      refine bodyPost_ret (v := .tuple #[.agg #[.slice none 0 0, .int .i64 0], .int .i64 1]) (by simp [results, Try.results13, go_sem]) rfl ?_
      exact ⟨rfl, below1 w _⟩
    · have e2 : decide ((1024 : Int) < pages) = false := by simpa using h2
      by_cases h3 : size < 64
      · have e3 : decide (size < 64) = true := by simpa using h3
        go_enter Try.func13, Try.ntmps13
        go_wp2
        refine bodyPost_ret (v := .tuple #[.agg #[.slice none 0 0, .int .i64 0], .int .i64 1]) (by simp [results, Try.results13, go_sem]) rfl ?_
        exact ⟨rfl, below1 w _⟩
      · have e3 : decide (size < 64) = false := by simpa using h3
        by_cases h4 : 4096 < size
        · have e4 : decide ((4096 : Int) < size) = true := by simpa using h4
          go_enter Try.func13, Try.ntmps13
          go_wp2
          refine bodyPost_ret (v := .tuple #[.agg #[.slice none 0 0, .int .i64 0], .int .i64 1]) (by simp [results, Try.results13, go_sem]) rfl ?_
          exact ⟨rfl, below1 w _⟩
        · have e4 : decide ((4096 : Int) < size) = false := by simpa using h4
          have h5 : ¬ size % 8 = 0 := fun q => h ⟨by omega, by omega, by omega, by omega, q⟩
          obtain ⟨z, rfl⟩ : ∃ z : Nat, size = (z : Int) := ⟨size.toNat, by omega⟩
          have e5 : ((z : Int) % 8 != 0) = true := by simpa using h5
          clear h h5
          go_enter Try.func13, Try.ntmps13
          go_wp2
          refine bodyPost_ret (v := .tuple #[.agg #[.slice none 0 0, .int .i64 0], .int .i64 1]) (by simp [results, Try.results13, go_sem]) rfl ?_
          exact ⟨rfl, below1 w _⟩
end Go.Proofs.Ytadljlkflmodiaa
