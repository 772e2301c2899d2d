/-
  make([]int, n), and a store into such a block: it reads as a list of ints. No statement about a Go function.
-/
import Derived.Test.YtkcdehnpkephgaaInts
import Derived.Test.YtkcdehnpkephgaaBut
import Derived.OwnWalk
import Derived.Laws.OwnMore
namespace Go.Proofs.Ytkcdehnpkephgaa
open Go.ChangeShapes Go.WideShapes Go.ChangeAt Go.RowKit

/-- A block of n ints that are 0. -/
def noInts (n : Nat) : Obj := .cells (madeCells #[.int .i64 0] n) 3
theorem make_ints (n : Nat) (hn : n ≤ 1048576) (v : World) :
    (Instr.makeSlice 22 (.int .i64 (n : Int)) (.int .i64 (n : Int))).run Try.prog v = .ok (.slice (some ⟨v.heap.size, 0, none⟩) n n) (v.alloc (noInts n)) := by
  obtain ⟨i, hi, hz, hs, hb⟩ : ∃ i, Try.prog.info? 3 = some i ∧ i.zero = some (.int .i64 0) ∧ i.size = 1 ∧ i.bytes = 8 := ⟨_, rfl, by kernel_rfl, by kernel_rfl, by kernel_rfl⟩
  rw [run_make v 22 3 i _ Try.underlying22 hi hz .i64 .i64 n n (by omega) (by omega) (by rw [hb]; omega) (by omega)]
  simp [hs, noInts, Value.cells]

/-- Block g holds the ints X, from its beginning on, and may be written. -/
structure IRow (w : World) (g : Nat) (X : List Int) : Prop where
  cell : ∀ (k : Nat) (s : Int), X[k]? = some s → w.cell? ⟨g, k, none⟩ = some (.int .i64 s)
  free : ∀ k, k < X.length → w.frozen? ⟨g, k, none⟩ = false
  fit : ∀ x ∈ X, -9223372036854775808 ≤ x ∧ x ≤ 9223372036854775807
  few : X.length ≤ 1048576
  lt : g < w.heap.size
section
variable {w w' : World} {g : Nat} {X : List Int} {S : Nat → Prop}
theorem IRow.new (w : World) (n : Nat) (hn : n ≤ 1048576) : IRow (w.alloc (noInts n)) w.heap.size (List.replicate n 0) := by
  have hh : (w.alloc (noInts n)).heap[w.heap.size]? = some (noInts n) := by simp only [World.alloc, Array.getElem?_push, if_true]
  refine ⟨fun k s hs => ?_, fun k hk => ?_, fun x hx => by rw [List.eq_of_mem_replicate hx]; omega, by rw [List.length_replicate]; exact hn, by simp⟩
  · obtain ⟨hk, e⟩ := List.getElem?_eq_some_iff.1 hs
    rw [List.length_replicate] at hk
    rw [List.getElem_replicate] at e
    subst e
    rw [World.cell?, hh]
    simp [noInts, madeCells, hk, Nat.mod_one]
  · rw [World.frozen?, hh]
    simp [noInts]
theorem IRow.but (h : IRow w g X) (hb : But S w w') (hn : ¬ S g) : IRow w' g X :=
  ⟨fun k s hs => (hb.cell (p := ⟨g, k, none⟩) h.lt hn).trans (h.cell k s hs), fun k hk => (hb.frozen (p := ⟨g, k, none⟩) h.lt hn).trans (h.free k hk), h.fit, h.few, Nat.lt_of_lt_of_le h.lt hb.size⟩
theorem IRow.on (h : IRow w g X) (hb : Below w.heap.size w w') : IRow w' g X := h.but (Below.but hb fun _ => False) id
theorem IRow.drewN (h : IRow w g X) (k : Nat) : IRow (w.drewN k) g X := h.but ((But.refl (fun _ => False) w).drewN k) id
theorem IRow.set (h : IRow w g X) {k : Nat} {v : Int} (hk : k < X.length) (hv : -9223372036854775808 ≤ v ∧ v ≤ 9223372036854775807) : IRow (w.setCell ⟨g, k, none⟩ (.int .i64 v)) g (X.set k v) := by
  refine ⟨fun j s hs => ?_, fun j hj => ?_, fun x hx => ?_, by rw [List.length_set]; exact h.few, by simpa using h.lt⟩
  · by_cases z : k = j
    · subst z
      rw [List.getElem?_set_self (by omega)] at hs
      cases hs
      exact World.cell?_setCell_same w ⟨g, k, none⟩ _ (h.cell k _ (List.getElem?_eq_getElem hk))
    · rw [List.getElem?_set_ne z] at hs
      exact (World.cell?_setCell_other w ⟨g, k, none⟩ ⟨g, j, none⟩ _ (by simp <;> omega)).trans (h.cell j s hs)
  · rw [List.length_set] at hj
    simpa using h.free j hj
  · rcases List.mem_or_eq_of_mem_set hx with q | q
    · exact h.fit x q
    · subst q; exact hv
theorem IRow.ints (h : IRow w g X) : Ints w w.heap.size (some ⟨g, 0, none⟩) X.length X :=
  ⟨rfl, by have := h.few; omega, h.fit, fun _ => ⟨g, 0, rfl, h.lt, fun k s hs => by rw [Nat.zero_add]; exact h.cell k s hs⟩⟩
end
end Go.Proofs.Ytkcdehnpkephgaa
