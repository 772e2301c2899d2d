/-
  A slice of ints that comes in as an argument, opened (for seats with XIntsApp, which has cuts of its own). No statement about a Go function.
-/
import Derived.Test.YtghlngdmcfconaaInts
import Derived.Deep.Fields
import Derived.Deep.Slices
import Derived.ChangeSame
import Derived.ShutString
import Derived.ChangeOld
import Derived.Below
namespace Go.Proofs.Ytghlngdmcfconaa
open Go.ChangeShapes Go.WideShapes Go.ChangeAt Go.RowKit Go.Deep

theorem ints_field {H : Type} {enc : TypeId × Value → H} {w : World} {n : Nat} {u : Value} {y : DataW H × List MemPlace} (h : DataW.trod enc Try.prog w 0 (fun _ => true) true n 22 [u] = some y) : ∃ (a : Option Addr) (len cap : Nat) (xs : List Int), u = .slice a len cap ∧ len ≤ cap ∧ Ints w w.heap.size a len xs := by
  rcases open_ints Try.underlying22 Try.underlying3 (by kernel_rfl) h with ⟨hcs, _⟩ | ⟨x, l, c, zs, hcs, _, hl, hm, hz, _, hcell, hwz⟩
  · simp at hcs
    exact ⟨_, _, _, _, hcs, by omega, Ints.of_row (zs := []) (cap := 0) (.inl ⟨rfl, rfl, rfl, rfl⟩)⟩
  · simp at hcs
    exact ⟨_, _, _, _, hcs, hl, Ints.of_row (zs := zs) (cap := c) (.inr ⟨x, rfl, hl, hm, by simpa using hz, hcell, hwz⟩)⟩
end Go.Proofs.Ytghlngdmcfconaa
