/-
  Three ints that came in, as an array by value, opened. No statement about a Go function.
-/
import Derived.Test.YtadljlkflmodiaaRecs
namespace Go.Proofs.Ytadljlkflmodiaa
open Go.ChangeShapes Go.WideShapes Go.ChangeAt Go.RowKit Go.Deep

section
variable {H : Type} {enc : TypeId × Value → H} {w : World}
theorem open_three {r : Reach} {b0 : Nat} {v : Value} {d : DataW H} {p : List MemPlace} (hv : Value.okWide Try.prog w r b0 23 v) (h : DataW.Trod enc Try.prog w 0 (fun _ => true) true 23 v d p) :
    ∃ x y z : Int, v = .agg #[.int .i64 x, .int .i64 y, .int .i64 z] ∧ (-9223372036854775808 ≤ x ∧ x ≤ 9223372036854775807) ∧ (-9223372036854775808 ≤ y ∧ y ≤ 9223372036854775807) ∧ -9223372036854775808 ≤ z ∧ z ≤ 9223372036854775807 := by
  obtain ⟨cs, rfl, hl, hf⟩ := array_in Try.underlying23 (by kernel_rfl) (by kernel_rfl) hv h
  obtain ⟨l⟩ := cs
  match l, hl with
  | [v0, v1, v2], _ =>
    obtain ⟨u0, _, n0, e0, t0⟩ := hf 0 (by omega)
    obtain ⟨u1, _, n1, e1, t1⟩ := hf 1 (by omega)
    obtain ⟨u2, _, n2, e2, t2⟩ := hf 2 (by omega)
    simp at e0 e1 e2
    subst e0 e1 e2
    obtain ⟨a0, rfl, f0⟩ := i64_field t0
    obtain ⟨a1, rfl, f1⟩ := i64_field t1
    obtain ⟨a2, rfl, f2⟩ := i64_field t2
    exact ⟨a0, a1, a2, rfl, f0, f1, f2⟩
end
end Go.Proofs.Ytadljlkflmodiaa
