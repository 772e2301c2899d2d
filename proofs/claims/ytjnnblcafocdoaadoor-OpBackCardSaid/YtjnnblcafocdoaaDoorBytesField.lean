/-
  A slice of bytes that came in, opened. No statement about a Go function.
-/
import Derived.Test.YtjnnblcafocdoaaDoorFieldsOpen
import Derived.Test.YtjnnblcafocdoaaDoorBytes
namespace Go.Proofs.YtjnnblcafocdoaaDoor
open Go.ChangeShapes Go.WideShapes Go.ChangeAt Go.RowKit Go.Deep

theorem wf_u8 {x : Int} (h : (Lit.int .u8 x).wf = true) : 0 ≤ x ∧ x ≤ 255 := by
  simpa [Lit.wf, IntKind.min, IntKind.max, IntKind.signed, IntKind.bits] using h
theorem Bytes.of_row {w : World} {a : Option Addr} {len cap : Nat} {zs : List Int}
    (h : (a = none ∧ len = 0 ∧ cap = 0 ∧ zs = []) ∨
      ∃ x, a = some x ∧ len ≤ cap ∧ cap ≤ maxLen ∧ zs.length = cap ∧ (∀ i, i < zs.length → w.cell? (x.add i) = some (.int .u8 (zs.getD i 0))) ∧ ∀ n ∈ zs, (Lit.int .u8 n).wf = true) :
    Bytes w w.heap.size a len (zs.take len) := by
  rcases h with ⟨rfl, rfl, rfl, rfl⟩ | ⟨⟨b, o, sp⟩, rfl, hl, hm, hz, hc, hw⟩
  · exact Bytes.zero _ _ _
  · unfold maxLen at hm
    refine ⟨by rw [List.length_take]; omega, by omega, fun x hx => wf_u8 (hw x (List.mem_of_mem_take hx)), fun hn => ?_⟩
    have h0 := hc 0 (by omega)
    have hsp : sp = none := by simpa [Addr.add] using World.cell?_spot h0
    subst hsp
    refine ⟨b, o, rfl, ?_, fun k s hs => ?_⟩
    · have h1 : w.cell? ⟨b, o, none⟩ = some (.int .u8 (zs.getD 0 0)) := by simpa [Addr.add] using h0
      exact lt_of_cell h1
    · rw [List.getElem?_take] at hs
      split at hs
      · obtain ⟨hk, e⟩ := List.getElem?_eq_some_iff.1 hs
        have h2 := hc k hk
        have e2 : zs.getD k 0 = s := by rw [List.getD_eq_getElem?_getD, hs]; rfl
        rw [e2] at h2
        by_cases hk0 : k = 0
        · subst hk0; simpa [Addr.add] using h2
        · simpa [Addr.add, hk0] using h2
      · cases hs

section
variable {H : Type} {enc : TypeId × Value → H} {w : World}
theorem bytes_field {n : Nat} {u : Value} {y : DataW H × List MemPlace} (h : DataW.trod enc Tryd.prog w 0 (fun _ => true) true n 25 [u] = some y) : ∃ (a : Option Addr) (len cap : Nat) (xs : List Int), u = .slice a len cap ∧ len ≤ cap ∧ Bytes w w.heap.size a len xs := by
  rcases open_ints Tryd.underlying25 Tryd.underlying5 (by kernel_rfl) h with ⟨hcs, _⟩ | ⟨x, l, c, zs, hcs, _, hl, hm, hz, _, hcell, hwz⟩
  · simp at hcs
    exact ⟨_, _, _, _, hcs, by omega, Bytes.of_row (zs := []) (cap := 0) (.inl ⟨rfl, rfl, rfl, rfl⟩)⟩
  · simp at hcs
    exact ⟨_, _, _, _, hcs, hl, Bytes.of_row (zs := zs) (cap := c) (.inr ⟨x, rfl, hl, hm, by simpa using hz, hcell, hwz⟩)⟩
end
end Go.Proofs.YtjnnblcafocdoaaDoor
