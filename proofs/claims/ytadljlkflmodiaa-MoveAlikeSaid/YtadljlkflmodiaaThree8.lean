/-
  Three bytes that came in, as an array by value, opened. No statement about a Go function.
-/
import Derived.Test.YtadljlkflmodiaaTwo8
namespace Go.Proofs.Ytadljlkflmodiaa
open Go.ChangeShapes Go.WideShapes Go.ChangeAt Go.RowKit Go.Deep

section
variable {H : Type} {enc : TypeId × Value → H} {w : World}
theorem open_three8 {r : Reach} {b0 : Nat} {v : Value} {d : DataW H} {p : List MemPlace} (hv : Value.okWide Try.prog w r b0 54 v) (h : DataW.Trod enc Try.prog w 0 (fun _ => true) true 54 v d p) :
    ∃ x y z : Int, v = .agg #[.int .u8 x, .int .u8 y, .int .u8 z] ∧ (0 ≤ x ∧ x ≤ 255) ∧ (0 ≤ y ∧ y ≤ 255) ∧ 0 ≤ z ∧ z ≤ 255 := by
  obtain ⟨cs, rfl, hl, hf⟩ := array_in Try.underlying54 (by kernel_rfl) (by kernel_rfl) hv h
  obtain ⟨l⟩ := cs
  match l, hl with
  | [v0, v1, v2], _ =>
    obtain ⟨u0, _, n0, e0, t0⟩ := hf 0 (by omega)
    obtain ⟨u1, _, n1, e1, t1⟩ := hf 1 (by omega)
    obtain ⟨u2, _, n2, e2, t2⟩ := hf 2 (by omega)
    simp at e0 e1 e2
    subst e0 e1 e2
    obtain ⟨a0, rfl, f0⟩ := u8_field t0
    obtain ⟨a1, rfl, f1⟩ := u8_field t1
    obtain ⟨a2, rfl, f2⟩ := u8_field t2
    exact ⟨a0, a1, a2, rfl, f0, f1, f2⟩
end
end Go.Proofs.Ytadljlkflmodiaa
