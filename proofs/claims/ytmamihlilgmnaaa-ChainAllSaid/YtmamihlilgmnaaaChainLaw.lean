/-
  What the laws of package chain say of few bytes: the spans of natural numbers, none where there are no bytes. No statement about a Go function.
-/
import Derived.Test.YtmamihlilgmnaaaChainNum
namespace Go.Proofs.Ytmamihlilgmnaaa

theorem cutI_nat {A N P : Nat} (hp : 1 ≤ P) (h : A + N ≤ 16777216) : cutI A N P = cutL P (A + N) A := by
  rcases Nat.eq_zero_or_pos N with q | q
  · subst q
    rw [cutI_off (by unfold mayCut; omega), Nat.add_zero, cutL_done (Nat.le_refl _)]
  · exact cutI_on ⟨by omega, by omega, by omega, by omega⟩
theorem len_bound {A N P : Nat} (hp : 1 ≤ P) : ((cutL P (A + N) A).length : Int) ≤ many (N : Int) P + 1 := by
  rcases Nat.eq_zero_or_pos N with q | q
  · subst q
    rw [Nat.add_zero, cutL_done (Nat.le_refl _), many_off (.inl (by omega))]
    simp
  · have := len_many (p := P) (e := A + N) (x := A) hp (by omega)
    rwa [show A + N - A = N by omega] at this
end Go.Proofs.Ytmamihlilgmnaaa
