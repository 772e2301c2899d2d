/-
  Two ints that came in, as an array by value, opened (beside a layout's fields). No statement about a Go function.
-/
import Derived.Test.YtpdhlnkdjcghpaaConfOpen
import Derived.Test.YtpdhlnkdjcghpaaFieldsOpen
namespace Go.Proofs.Ytpdhlnkdjcghpaa
open Go.ChangeShapes Go.WideShapes Go.ChangeAt Go.RowKit Go.Deep

section
variable {H : Type} {enc : TypeId × Value → H} {w : World}
theorem open_two_i {r : Reach} {b0 : Nat} {v : Value} {d : DataW H} {p : List MemPlace} (hv : Value.okWide Try.prog w r b0 29 v) (h : DataW.Trod enc Try.prog w 0 (fun _ => true) true 29 v d p) :
    ∃ x y : Int, v = .agg #[.int .i64 x, .int .i64 y] ∧ Fit x ∧ Fit y := by
  obtain ⟨cs, rfl, hl, hf⟩ := array_in Try.underlying29 (by kernel_rfl) (by kernel_rfl) hv h
  obtain ⟨l⟩ := cs
  match l, hl with
  | [v0, v1], _ =>
    obtain ⟨u0, _, n0, e0, t0⟩ := hf 0 (by omega)
    obtain ⟨u1, _, n1, e1, t1⟩ := hf 1 (by omega)
    simp at e0 e1
    subst e0 e1
    obtain ⟨a0, rfl, f0⟩ := int_field t0
    obtain ⟨a1, rfl, f1⟩ := int_field t1
    exact ⟨a0, a1, rfl, f0, f1⟩
end
end Go.Proofs.Ytpdhlnkdjcghpaa
