/-
  A slice of ints that comes in as an argument, opened; and a cut of it up to a place. No statement about a Go function.
-/
import Derived.Test.YtiajhogecckceaaInts
import Derived.Deep.Fields
import Derived.Deep.Slices
import Derived.ChangeSame
import Derived.ShutString
import Derived.ChangeOld
import Derived.Below
namespace Go.Proofs.Ytiajhogecckceaa
open Go.ChangeShapes Go.WideShapes Go.ChangeAt Go.RowKit Go.Deep

theorem ints_field {H : Type} {enc : TypeId × Value → H} {w : World} {n : Nat} {u : Value} {y : DataW H × List MemPlace} (h : DataW.trod enc Try.prog w 0 (fun _ => true) true n 22 [u] = some y) : ∃ (a : Option Addr) (len cap : Nat) (xs : List Int), u = .slice a len cap ∧ len ≤ cap ∧ Ints w w.heap.size a len xs := by
  rcases open_ints Try.underlying22 Try.underlying3 (by kernel_rfl) h with ⟨hcs, _⟩ | ⟨x, l, c, zs, hcs, _, hl, hm, hz, _, hcell, hwz⟩
  · simp at hcs
    exact ⟨_, _, _, _, hcs, by omega, Ints.of_row (zs := []) (cap := 0) (.inl ⟨rfl, rfl, rfl, rfl⟩)⟩
  · simp at hcs
    exact ⟨_, _, _, _, hcs, hl, Ints.of_row (zs := zs) (cap := c) (.inr ⟨x, rfl, hl, hm, by simpa using hz, hcell, hwz⟩)⟩
/-- The first k of them. -/
theorem Ints.take {w : World} {B n : Nat} {a : Option Addr} {xs : List Int} (h : Ints w B a n xs) {k : Nat} (hk : k ≤ n) : Ints w B a k (xs.take k) := by
  have hl := h.len
  refine ⟨by rw [List.length_take]; omega, by have := h.max; omega, fun x hx => h.2.2.1 x (List.mem_of_mem_take hx), fun hn => ?_⟩
  obtain ⟨b, o, e, hb, hc⟩ := h.head (by omega)
  refine ⟨b, o, e, hb, fun j s hs => ?_⟩
  rw [List.getElem?_take] at hs
  split at hs
  · exact hc j s hs
  · cases hs
/-- 'l[:k]' is run so. -/
theorem cut_to {b o n c k : Nat} (hk : k ≤ n) (hnc : n ≤ c) (v : World) :
    (Instr.sliceAt 22 (.slice (some ⟨b, o, none⟩) n c) none (some (.int .i64 (k : Int))) none).run Try.prog v = .ok (.slice (some ⟨b, o, none⟩) k c) v := by
  have hu : Try.prog.underlying 22 = some (.slice (Try.prog.elem 22)) := by kernel_rfl
  have hs : ∀ v, (sizeOf (Try.prog.elem 22)).run Try.prog v = .ok 1 v := fun v => by kernel_rfl
  rw [run_sliceAt_slice _ _ _ _ _ _ hu, run_slice_h _ _ _ _ _ hu _ _ (by omega) (by omega), hs]
  simp [Result.andThen, sliced, Addr.add]
end Go.Proofs.Ytiajhogecckceaa
