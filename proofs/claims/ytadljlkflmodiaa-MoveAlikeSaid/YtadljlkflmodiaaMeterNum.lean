/-
  Plain functions on numbers: what a meter counts. No statement about a Go function.
-/
import Derived.Test.YtadljlkflmodiaaInts
namespace Go.Proofs.Ytadljlkflmodiaa
open Go.ChangeShapes Go.WideShapes Go.ChangeAt Go.RowKit

/-- n steps more: none, if n is below 1; 2^62 at most. -/
def more (t n : Int) : Int := if n < 1 then t else if 4611686018427387904 - t < n then 4611686018427387904 else t + n
/-- What some charges come to, from t on. -/
def total (t : Int) (xs : List Int) : Int := xs.foldl more t

theorem more_fit {t : Int} (n : Int) (h0 : 0 ≤ t) (h1 : t ≤ 4611686018427387904) : t ≤ more t n ∧ more t n ≤ 4611686018427387904 := by
  unfold more
  split
  · omega
  · split <;> omega
theorem more_same {t n : Int} : (more t n = t ↔ n < 1 ∨ t = 4611686018427387904) := by
  unfold more
  split
  · omega
  · split <;> omega
theorem more_test (t n : Int) : ((more t n == t) == (decide (n < 1) || (t == 4611686018427387904))) = true := by
  rw [beq_iff_eq, Bool.eq_iff_iff]
  simp [more_same]
theorem total_take {xs : List Int} {k : Nat} {x : Int} (t : Int) (h : xs[k]? = some x) : total t (xs.take (k + 1)) = more (total t (xs.take k)) x := by
  unfold total
  rw [List.take_add_one, h]
  simp
theorem total_fit (xs : List Int) : ∀ {t : Int}, 0 ≤ t → t ≤ 4611686018427387904 → t ≤ total t xs ∧ total t xs ≤ 4611686018427387904 := by
  induction xs with
  | nil => intro t h0 h1; exact ⟨Int.le_refl _, h1⟩
  | cons x xs ih =>
    intro t h0 h1
    have hm := more_fit x h0 h1
    have := ih (t := more t x) (by omega) hm.2
    exact ⟨by show t ≤ total (more t x) xs; omega, this.2⟩
theorem total_zero (xs : List Int) : 0 ≤ total 0 xs ∧ total 0 xs ≤ 4611686018427387904 := total_fit xs (Int.le_refl _) (by omega)
/-- As the code has it: what may be counted of n, and is added. -/
theorem more_code {t : Int} (n : Int) (h0 : 0 ≤ t) (h1 : t ≤ 4611686018427387904) : t + max 0 (min n (4611686018427387904 - t)) = more t n := by
  unfold more
  split
  · omega
  · split <;> omega
end Go.Proofs.Ytadljlkflmodiaa
