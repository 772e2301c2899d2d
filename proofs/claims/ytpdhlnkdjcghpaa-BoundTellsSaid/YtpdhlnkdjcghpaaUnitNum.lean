/-
  The plain numbers of package unit: many, whole, upTo, spare, and what follows of them. No statement about a Go function.
-/
import Derived.Test.YtpdhlnkdjcghpaaRows
import Derived.WalkKit
import Derived.ProofKit
import Derived.OpenShut
namespace Go.Proofs.Ytpdhlnkdjcghpaa

/-! ### The plain numbers -/
def many (n b : Int) : Int := if n < 1 ∨ b < 1 then 0 else if n % b = 0 then n / b else n / b + 1
def whole (n b : Int) : Int := if n < 1 ∨ b < 1 then 0 else n / b
def upTo (n b : Int) : Int := if many n b * b ≤ 9223372036854775807 then many n b * b else 0
def spare (n b : Int) : Int := if upTo n b = 0 then 0 else upTo n b - n

theorem many_off {n b : Int} (h : n < 1 ∨ b < 1) : many n b = 0 := if_pos h
theorem whole_off {n b : Int} (h : n < 1 ∨ b < 1) : whole n b = 0 := if_pos h
theorem whole_on {n b : Int} (hn : 1 ≤ n) (hb : 1 ≤ b) : whole n b = n / b := if_neg (by omega)
theorem many_even {n b : Int} (hn : 1 ≤ n) (hb : 1 ≤ b) (h : n % b = 0) : many n b = n / b := by
  unfold many; rw [if_neg (by omega), if_pos h]
theorem many_odd {n b : Int} (hn : 1 ≤ n) (hb : 1 ≤ b) (h : ¬ n % b = 0) : many n b = n / b + 1 := by
  unfold many; rw [if_neg (by omega), if_neg h]
theorem upTo_off {n b : Int} (h : n < 1 ∨ b < 1) : upTo n b = 0 := by unfold upTo; rw [many_off h]; simp
theorem spare_off {n b : Int} (h : n < 1 ∨ b < 1) : spare n b = 0 := if_pos (upTo_off h)

/-- A quotient times its divisor, and the rest. -/
theorem div_facts {n b : Int} (hn : 1 ≤ n) (hb : 1 ≤ b) : 0 ≤ n / b ∧ n / b ≤ n ∧ n / b * b + n % b = n ∧ 0 ≤ n % b ∧ n % b < b := by
  have h1 := Int.emod_nonneg n (show b ≠ 0 by omega)
  have h2 := Int.emod_lt_of_pos n (show 0 < b by omega)
  have h3 := Int.ediv_mul_add_emod n b
  have h4 := Int.ediv_nonneg (show 0 ≤ n by omega) (show 0 ≤ b by omega)
  have h5 := Int.ediv_le_self b (show 0 ≤ n by omega)
  exact ⟨h4, h5, h3, h1, h2⟩

/-- Where a rest is left the quotient is below the number: one more is an int still. -/
theorem div_lt {n b : Int} (hn : 1 ≤ n) (hb : 1 ≤ b) (h : ¬ n % b = 0) : n / b + 1 ≤ n := by
  obtain ⟨h1, h2, h3, h4, h5⟩ := div_facts hn hb
  have h6 : n / b * 1 ≤ n / b * b := Int.mul_le_mul_of_nonneg_left hb h1
  omega

theorem many_facts {n b : Int} (hn : 1 ≤ n) (hb : 1 ≤ b) : 1 ≤ many n b ∧ many n b ≤ n ∧ n ≤ many n b * b ∧ many n b * b < n + b := by
  obtain ⟨h1, h2, h3, h4, h5⟩ := div_facts hn hb
  by_cases h0 : n % b = 0
  · rw [many_even hn hb h0]
    have : n / b ≠ 0 := fun e => by rw [e] at h3; omega
    omega
  · rw [many_odd hn hb h0]
    have h6 := div_lt hn hb h0
    rw [Int.add_mul, Int.one_mul]
    omega
end Go.Proofs.Ytpdhlnkdjcghpaa
