/-
  A struct by value of whatever many fields of one cell each, opened field by field, out of its value or out of its cells. No statement about a Go function.
-/
import Derived.Test.YtjnnblcafocdoaaDoorRows
import Derived.WalkKit
import Derived.ProofKit
import Derived.OpenShut
import Derived.Deep.Fields
import Derived.Deep.Slices
import Derived.ChangeSame
import Derived.ShutString
import Derived.ChangeOld
import Derived.Below
namespace Go.Proofs.YtjnnblcafocdoaaDoor
open Go.ChangeShapes Go.WideShapes Go.ChangeAt Go.RowKit Go.Deep

section
variable {H : Type} {enc : TypeId × Value → H} {P : Program} {w : World} {base : Nat} {spare : Nat → Bool} {held : Bool}
theorem fields_of {t : TypeId} {fs : Array Field} {cs : List Value} {fuel : Nat} {x : DataW H × List MemPlace} (hs : P.underlying t = some (.struct fs)) (hone : oneCellFields P fs = true) (hC : P.cellsOf t = fs.size)
    (h : DataW.trod enc P w base spare held fuel t cs = some x) :
    cs.length = fs.size ∧ ∀ (i : Nat) (f : Field), fs[i]? = some f → ∃ (u : Value) (y : DataW H × List MemPlace) (n : Nat), cs[i]? = some u ∧ DataW.trod enc P w base spare held n f.type [u] = some y := by
  obtain ⟨xs, n, _, hx, hlen, hxl, hg⟩ := DataW.trod_struct hs h
  refine ⟨hlen.trans hC, fun i f hi => ?_⟩
  obtain ⟨ho, hk⟩ := hone_of hone i f hi
  have hil : i < fs.size := (Array.getElem?_eq_some_iff.1 hi).1
  have h1 := hg i f hi
  rw [ho, hk] at h1
  have hlt : i < cs.length := by omega
  have hone' : (cs.drop i).take 1 = [cs[i]'hlt] := by rw [List.drop_eq_getElem_cons hlt]; rfl
  rw [hone'] at h1
  exact ⟨_, _, n, List.getElem?_eq_getElem hlt, h1.trans (List.getElem?_eq_getElem (by omega))⟩
/-- Out of the value. -/
theorem fields_in {r : Reach} {b0 : Nat} {t : TypeId} {fs : Array Field} {v : Value} {d : DataW H} {p : List MemPlace} (hs : P.underlying t = some (.struct fs)) (hone : oneCellFields P fs = true) (hC : P.cellsOf t = fs.size)
    (hv : Value.okWide P w r b0 t v) (h : DataW.Trod enc P w base spare held t v d p) :
    ∃ cs : Array Value, v = .agg cs ∧ cs.toList.length = fs.size ∧ ∃ fuel, DataW.trod enc P w base spare held fuel t cs.toList = some (d, p) := by
  obtain ⟨cs, rfl, hsz⟩ := okWide_struct hs hv
  obtain ⟨fuel, hf⟩ := h
  have hc : (Value.agg cs).cells.toList = cs.toList := by simp [Value.cells]
  rw [hc] at hf
  exact ⟨cs, rfl, (fields_of hs hone hC hf).1, fuel, hf⟩
/-- An array by value, of elements of one cell each: its cells, and how each reads. -/
theorem array_in {r : Reach} {b0 n : Nat} {t e : TypeId} {v : Value} {d : DataW H} {p : List MemPlace} (hs : P.underlying t = some (.array n e)) (hk : P.cellsOf e = 1) (hC : P.cellsOf t = n)
    (hv : Value.okWide P w r b0 t v) (h : DataW.Trod enc P w base spare held t v d p) :
    ∃ cs : Array Value, v = .agg cs ∧ cs.toList.length = n ∧ ∀ i, i < n → ∃ (u : Value) (y : DataW H × List MemPlace) (m : Nat), cs.toList[i]? = some u ∧ DataW.trod enc P w base spare held m e [u] = some y := by
  simp only [Value.okWide, hs] at hv
  obtain ⟨cs, rfl, _⟩ := hv
  obtain ⟨fuel, hf⟩ := h
  have hc : (Value.agg cs).cells.toList = cs.toList := by simp [Value.cells]
  rw [hc] at hf
  obtain ⟨xs, m, _, _, hlen, hxl, hg⟩ := DataW.trod_array hs hf
  have hl : cs.toList.length = n := hlen.trans hC
  refine ⟨cs, rfl, hl, fun i hi => ?_⟩
  have h1 := hg i hi
  rw [hk, Nat.mul_one] at h1
  have hlt : i < cs.toList.length := by omega
  have hone' : (cs.toList.drop i).take 1 = [cs.toList[i]'hlt] := by rw [List.drop_eq_getElem_cons hlt]; rfl
  rw [hone'] at h1
  exact ⟨_, _, m, List.getElem?_eq_getElem hlt, h1.trans (List.getElem?_eq_getElem (by omega))⟩
end
end Go.Proofs.YtjnnblcafocdoaaDoor
