/-
  Two bytes that came in, as an array by value, opened; a field of one byte. No statement about a Go function.
-/
import Derived.Test.YtmamihlilgmnaaaFieldsOpen
namespace Go.Proofs.Ytmamihlilgmnaaa
open Go.ChangeShapes Go.WideShapes Go.ChangeAt Go.RowKit Go.Deep

section
variable {H : Type} {enc : TypeId × Value → H} {w : World}
theorem u8_field {n : Nat} {u : Value} {y : DataW H × List MemPlace} (h : DataW.trod enc Try.prog w 0 (fun _ => true) true n 5 [u] = some y) : ∃ a : Int, u = .int .u8 a ∧ 0 ≤ a ∧ a ≤ 255 := by
  obtain ⟨a, e, _, hw⟩ := DataW.trod_int Try.underlying5 h
  simp at e
  exact ⟨a, e, bounds_u8 hw⟩
theorem open_two {r : Reach} {b0 : Nat} {v : Value} {d : DataW H} {p : List MemPlace} (hv : Value.okWide Try.prog w r b0 32 v) (h : DataW.Trod enc Try.prog w 0 (fun _ => true) true 32 v d p) :
    ∃ x y : Int, v = .agg #[.int .u8 x, .int .u8 y] ∧ (0 ≤ x ∧ x ≤ 255) ∧ 0 ≤ y ∧ y ≤ 255 := by
  obtain ⟨cs, rfl, hl, hf⟩ := array_in Try.underlying32 (by kernel_rfl) (by kernel_rfl) hv h
  obtain ⟨l⟩ := cs
  match l, hl with
  | [v0, v1], _ =>
    obtain ⟨u0, _, n0, e0, t0⟩ := hf 0 (by omega)
    obtain ⟨u1, _, n1, e1, t1⟩ := hf 1 (by omega)
    simp at e0 e1
    subst e0 e1
    obtain ⟨a0, rfl, f0⟩ := u8_field t0
    obtain ⟨a1, rfl, f1⟩ := u8_field t1
    exact ⟨a0, a1, rfl, f0, f1⟩
end
end Go.Proofs.Ytmamihlilgmnaaa
