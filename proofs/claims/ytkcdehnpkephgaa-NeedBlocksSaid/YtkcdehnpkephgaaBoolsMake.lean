/-
  make([]bool, n). No statement about a Go function.
-/
import Derived.Test.YtkcdehnpkephgaaBools
import Derived.OwnWalk
import Derived.Laws.OwnMore
namespace Go.Proofs.Ytkcdehnpkephgaa
open Go.ChangeShapes Go.WideShapes Go.ChangeAt Go.RowKit Go.Deep

/-- n bools false, as make lays them. -/
def falses (n : Nat) : Obj := .cells (madeCells #[.bool false] n) 4
theorem make_bools (n : Nat) (hn : n ≤ 512) (v : World) :
    (Instr.makeSlice 33 (.int .i64 (n : Int)) (.int .i64 (n : Int))).run Try.prog v = .ok (.slice (some ⟨v.heap.size, 0, none⟩) n n) (v.alloc (falses n)) := by
  obtain ⟨i, hi, hz, hs, hb⟩ : ∃ i, Try.prog.info? 4 = some i ∧ i.zero = some (.bool false) ∧ i.size = 1 ∧ i.bytes = 1 := ⟨_, rfl, by kernel_rfl, by kernel_rfl, by kernel_rfl⟩
  rw [run_make v 33 4 i (.bool false) Try.underlying33 hi hz .i64 .i64 n n (by omega) (by omega) (by rw [hb]; omega) (by omega)]
  simp [hs, falses, Value.cells]
theorem falses_row (w : World) (n : Nat) (hn : n ≤ 512) : Bools (w.alloc (falses n)) (w.alloc (falses n)).heap.size (some ⟨w.heap.size, 0, none⟩) n (List.replicate n false) := by
  have hh : (w.alloc (falses n)).heap[w.heap.size]? = some (falses n) := by simp only [World.alloc, Array.getElem?_push, if_true]
  refine ⟨by simp, by omega, fun _ => ⟨w.heap.size, 0, rfl, by simp, fun k s hs => ?_⟩⟩
  obtain ⟨hk, e⟩ := List.getElem?_eq_some_iff.1 hs
  rw [List.length_replicate] at hk
  rw [List.getElem_replicate] at e
  subst e
  rw [World.cell?, hh]
  simp [falses, madeCells, hk, Nat.mod_one]
end Go.Proofs.Ytkcdehnpkephgaa
