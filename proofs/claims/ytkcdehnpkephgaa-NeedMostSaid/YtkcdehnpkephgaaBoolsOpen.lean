/-
  A slice of bools that comes in as an argument, opened. No statement about a Go function.
-/
import Derived.Test.YtkcdehnpkephgaaBools
import Derived.Deep.Grids
import Derived.Deep.Fields
import Derived.Deep.Slices
import Derived.ChangeSame
import Derived.ShutString
import Derived.ChangeOld
import Derived.Below
namespace Go.Proofs.Ytkcdehnpkephgaa
open Go.ChangeShapes Go.WideShapes Go.ChangeAt Go.RowKit Go.Deep

theorem bools_field {H : Type} {enc : TypeId × Value → H} {w : World} {n : Nat} {u : Value} {y : DataW H × List MemPlace} (h : DataW.trod enc Try.prog w 0 (fun _ => true) true n 33 [u] = some y) :
    ∃ (a : Option Addr) (len cap : Nat) (xs : List Bool), u = .slice a len cap ∧ len ≤ cap ∧ Bools w w.heap.size a len xs := by
  rcases open_bools Try.underlying33 Try.underlying4 (by kernel_rfl) h with ⟨hcs, _⟩ | ⟨⟨b, o, sp⟩, l, c, B, hcs, _, hl, hm, _, hcell⟩
  · simp at hcs
    exact ⟨_, _, _, [], hcs, Nat.le_refl _, rfl, by omega, fun h => absurd h (by omega)⟩
  · simp at hcs
    refine ⟨_, _, _, (List.range l).map B, hcs, hl, by simp, by unfold maxLen at hm; omega, fun hn => ?_⟩
    have h0 := hcell 0 (by omega)
    have hsp : sp = none := by simpa [Addr.add] using World.cell?_spot h0
    subst hsp
    refine ⟨b, o, rfl, ?_, fun k s hs => ?_⟩
    · have h1 : w.cell? ⟨b, o, none⟩ = some (.bool (B 0)) := by simpa [Addr.add] using h0
      rcases Nat.lt_or_ge b w.heap.size with g | g
      · exact g
      · simp [World.cell?, Array.getElem?_eq_none g] at h1
    · obtain ⟨hk, e⟩ := List.getElem?_eq_some_iff.1 hs
      rw [List.length_map, List.length_range] at hk
      rw [List.getElem_map, List.getElem_range] at e
      subst e
      have h2 := hcell k (by omega)
      by_cases hk0 : k = 0
      · subst hk0; simpa [Addr.add] using h2
      · simpa [Addr.add, hk0] using h2
end Go.Proofs.Ytkcdehnpkephgaa
