/-
  A variable of any many cells ('Cs'): kept by calls, laid anew cell by cell. No statement about a Go function.
-/
import Derived.Test.YtjnnblcafocdoaaDoorBut
namespace Go.Proofs.YtjnnblcafocdoaaDoor
open Go.ChangeShapes Go.WideShapes Go.ChangeAt Go.RowKit

/-- Block q is a variable of the cells vs, and may be written. -/
structure Cs (w : World) (q : Nat) (vs : List Value) : Prop where
  cell : ∀ (i : Nat) (v : Value), vs[i]? = some v → w.cell? ⟨q, i, none⟩ = some v
  free : ∀ i, i < vs.length → w.frozen? ⟨q, i, none⟩ = false
  size : q < w.heap.size
section
variable {w w' : World} {q : Nat} {vs : List Value}
theorem Cs.but {S : Nat → Prop} (h : Cs w q vs) (hb : But S w w') (hn : ¬ S q) : Cs w' q vs :=
  ⟨fun i v e => (hb.cell (p := ⟨q, i, none⟩) h.size hn).trans (h.cell i v e), fun i e => (hb.frozen (p := ⟨q, i, none⟩) h.size hn).trans (h.free i e), Nat.lt_of_lt_of_le h.size hb.size⟩
theorem Cs.below (h : Cs w q vs) (hb : Below w.heap.size w w') : Cs w' q vs := h.but (Below.but hb fun _ => False) id
theorem Cs.drewN (h : Cs w q vs) (k : Nat) : Cs (w.drewN k) q vs := h.but ((But.refl (fun _ => False) w).drewN k) id
theorem Cs.new (w : World) (cs : Array Value) (t : TypeId) (hc : vs = cs.toList) : Cs (w.alloc (.cells cs t)) w.heap.size vs := by
  have hh : (w.alloc (.cells cs t)).heap[w.heap.size]? = some (.cells cs t) := by simp only [World.alloc, Array.getElem?_push, if_true]
  subst hc
  refine ⟨fun i v e => ?_, fun i e => ?_, by simp⟩
  · rw [World.cell?, hh]
    simpa using e
  · rw [World.frozen?, hh]
    simp
theorem Cs.at_ {g : Nat} (h : Cs w q vs) (e : q = g) : Cs w g vs := e ▸ h
theorem Cs.set (h : Cs w q vs) (i : Nat) (v : Value) : Cs (w.setCell ⟨q, i, none⟩ v) q (vs.set i v) := by
  refine ⟨fun j u e => ?_, fun j e => ?_, by simpa [World.setCell] using h.size⟩
  · by_cases hij : i = j
    · subst hij
      by_cases hl : i < vs.length
      · rw [List.getElem?_set_self hl] at e
        cases e
        exact World.cell?_setCell_same w _ _ (h.cell i _ (List.getElem?_eq_getElem hl))
      · rw [List.getElem?_eq_none (by rw [List.length_set]; omega)] at e
        cases e
    · rw [List.getElem?_set_ne hij] at e
      exact (World.cell?_setCell_other w ⟨q, i, none⟩ ⟨q, j, none⟩ _ (fun r => hij (by injection r))).trans (h.cell j u e)
  · rw [List.length_set] at e
    simpa using h.free j e
theorem Cs.far (h : Cs w q vs) {p : Addr} (hp : p.block ≠ q) (v : Value) : Cs (w.setCell p v) q vs := h.but ((But.refl (· = p.block) w).setCell (fun _ => rfl) v) (fun e => hp e.symm)
end
end Go.Proofs.YtjnnblcafocdoaaDoor
