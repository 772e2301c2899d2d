/-
  A slice of ints that is written out, as a list. No statement about a Go function.
-/
import Derived.Test.YtpdhlnkdjcghpaaInts
import Derived.Test.YtpdhlnkdjcghpaaFresh
namespace Go.Proofs.Ytpdhlnkdjcghpaa
open Go.ChangeShapes Go.WideShapes Go.ChangeAt Go.RowKit

theorem ints_lit (w : World) (xs : List Int) (cs : Array Value) (t : TypeId) (hcs : cs = (xs.map (Value.int .i64)).toArray) (hm : xs.length ≤ 1000) (hf : ∀ x ∈ xs, -9223372036854775808 ≤ x ∧ x ≤ 9223372036854775807) :
    Ints (w.alloc (.cells cs t)) (w.alloc (.cells cs t)).heap.size (some ⟨w.heap.size, 0, none⟩) xs.length xs := by
  refine ⟨rfl, by omega, hf, fun _ => ⟨w.heap.size, 0, rfl, by simp, fun k s hs => ?_⟩⟩
  have hh : (w.alloc (.cells cs t)).heap[w.heap.size]? = some (.cells cs t) := by simp only [World.alloc, Array.getElem?_push, if_true]
  rw [World.cell?, hh]
  subst hcs
  simp [hs]
theorem fit_list {xs : List Int} (h : xs.all (fun x => decide (-1000 ≤ x ∧ x ≤ 1000)) = true) : ∀ x ∈ xs, -9223372036854775808 ≤ x ∧ x ≤ 9223372036854775807 := by
  intro x hx
  rw [List.all_eq_true] at h
  have := of_decide_eq_true (h x hx)
  omega
end Go.Proofs.Ytpdhlnkdjcghpaa
