/-
  Plain lists: what a step, and a write that is told, come to; what is gone stands at both places alike. No statement about a Go function.
-/
import Derived.Test.YtadljlkflmodiaaMove
namespace Go.Proofs.Ytadljlkflmodiaa

/-- What is gone stands at both places alike. -/
def Alike (xs : List Int) (f t g : Nat) : Prop := ∀ i, i < g → xs[f + i]? = xs[t + i]?
theorem laid_get {xs : List Int} {f t at_ n k : Nat} (hf : f + at_ + n ≤ xs.length) (ht : t + at_ + n ≤ xs.length) : (laid xs f t at_ n)[k]? = if t + at_ ≤ k ∧ k < t + at_ + n then xs[f + (k - t)]? else xs[k]? := by
  have hl := length_sub xs (f + at_) n hf
  rw [laid, splice_get _ _ _ (by rw [hl]; exact ht), hl]
  by_cases h1 : k < t + at_
  · rw [if_pos h1, if_neg (by omega)]
  · rw [if_neg h1]
    by_cases h2 : k < t + at_ + n
    · rw [if_pos h2, if_pos (by omega), sub_get (by omega)]
      congr 1
      omega
    · rw [if_neg h2, if_neg (by omega)]
theorem Alike.step {xs : List Int} {f t s g k : Nat} (h : Alike xs f t g) (hfs : f + s ≤ xs.length) (hts : t + s ≤ xs.length) (ha : f + s ≤ t) (hk : g + k ≤ s) : Alike (laid xs f t g k) f t (g + k) := by
  intro i hi
  rw [laid_get (by omega) (by omega), laid_get (by omega) (by omega), if_neg (by omega)]
  by_cases h1 : i < g
  · rw [if_neg (by omega)]
    exact h i h1
  · rw [if_pos (by omega)]
    congr 1
    omega
theorem Alike.wrote {xs bs : List Int} {f t s g at_ n : Nat} (h : Alike xs f t g) (hfs : f + s ≤ xs.length) (hts : t + s ≤ xs.length) (ha : f + s ≤ t) (hg : g ≤ s) (hn : at_ + n ≤ s) (hb : bs.length = n) : Alike (laid (splice xs (f + at_) bs) f t at_ (again g at_ n)) f t g := by
  intro i hi
  have hl : (splice xs (f + at_) bs).length = xs.length := length_splice _ _ _ (by omega)
  have hr := again_le (g := g) hn
  have hr2 : again g at_ n = min n (g - at_) := rfl
  rw [laid_get (by omega) (by omega), laid_get (by omega) (by omega), if_neg (by omega)]
  by_cases h1 : at_ ≤ i ∧ i < at_ + again g at_ n
  · rw [if_pos (by omega)]
    congr 1
    omega
  · rw [if_neg (by omega), splice_get _ _ _ (by omega), splice_get _ _ _ (by omega)]
    by_cases h2 : i < at_
    · rw [if_pos (by omega), if_neg (by omega), if_neg (by omega)]
      exact h i hi
    · rw [if_neg (by omega), if_neg (by omega), if_neg (by omega), if_neg (by omega)]
      exact h i hi
theorem Alike.sub {xs : List Int} {f t g : Nat} (h : Alike xs f t g) : sub xs f g = sub xs t g := by
  apply List.ext_getElem?
  intro j
  by_cases hj : j < g
  · rw [sub_get hj, sub_get hj]
    exact h j hj
  · rw [List.getElem?_eq_none (by simp [Go.Proofs.Ytadljlkflmodiaa.sub]; omega), List.getElem?_eq_none (by simp [Go.Proofs.Ytadljlkflmodiaa.sub]; omega)]

/-- What an act comes to: what is told; the bytes, and how many are gone, behind it; the steps of a write, and of what is copied. -/
structure MOut where
  told : Nat
  xs : List Int
  gone : Nat
  s1 : Nat
  s2 : Nat
theorem length_wrote {xs bs : List Int} {f t s g at_ n : Nat} (hfs : f + s ≤ xs.length) (hts : t + s ≤ xs.length) (hn : at_ + n ≤ s) (hb : bs.length = n) : (laid (splice xs (f + at_) bs) f t at_ (again g at_ n)).length = xs.length := by
  have hl : (splice xs (f + at_) bs).length = xs.length := length_splice _ _ _ (by omega)
  have hr := again_le (g := g) hn
  rw [length_laid (by omega) (by omega), hl]
end Go.Proofs.Ytadljlkflmodiaa
