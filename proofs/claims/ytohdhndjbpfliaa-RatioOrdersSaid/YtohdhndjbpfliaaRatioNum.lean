/-
  Floats of 64 bits as plain numbers: one order of all of them ('key'), when two are the same, what is below, and which sums and quotients are numbers. No statement about a Go function.
-/
import Derived.Test.YtohdhndjbpfliaaRows
import Derived.Laws.FloatArith
namespace Go.Proofs.Ytohdhndjbpfliaa

/-- The sign of a float's bits, and what lies below the sign. -/
def neg (x : Nat) : Bool := x / 9223372036854775808 % 2 == 1
def rung (x : Nat) : Nat := x % 9223372036854775808
/-- No number. -/
def nan (x : Nat) : Bool := decide (9218868437227405312 < rung x)
/-- How great a rung is, in units of the least float. -/
def val (r : Nat) : Nat := if r < 4503599627370496 then r else (4503599627370496 + r % 4503599627370496) * 2 ^ (r / 4503599627370496 - 1)
/-- A number's place: the two noughts share one. -/
def sk (x : Nat) : Int := if neg x then -(rung x : Int) else rung x
/-- A float's place: -0 is ahead of 0, what is no number behind all. -/
def key (x : Nat) : Int := if nan x then 18446744073709551616 else if neg x then -(rung x : Int) - 1 else rung x
def below (x y : Nat) : Bool := decide (key x < key y)
def same (x y : Nat) : Bool := (nan x && nan y) || x == y

theorem val_lt {r s : Nat} (h : r < s) : val r < val s := by
  unfold val
  by_cases hs : s < 4503599627370496
  · rw [if_pos hs, if_pos (by omega)]; exact h
  · rw [if_neg hs]
    have e : 4503599627370496 + s % 4503599627370496 ≤ (4503599627370496 + s % 4503599627370496) * 2 ^ (s / 4503599627370496 - 1) := Nat.le_mul_of_pos_right _ (Nat.two_pow_pos _)
    by_cases hr : r < 4503599627370496
    · rw [if_pos hr]; omega
    · rw [if_neg hr]
      rcases Nat.lt_or_ge (r / 4503599627370496) (s / 4503599627370496) with g | g
      · have e1 : (4503599627370496 + r % 4503599627370496) * 2 ^ (r / 4503599627370496 - 1) < (2 * 4503599627370496) * 2 ^ (r / 4503599627370496 - 1) := Nat.mul_lt_mul_of_pos_right (by omega) (Nat.two_pow_pos _)
        have e2 : (2 * 4503599627370496) * 2 ^ (r / 4503599627370496 - 1) = 4503599627370496 * 2 ^ (r / 4503599627370496) := by
          have : r / 4503599627370496 = (r / 4503599627370496 - 1) + 1 := by omega
          generalize r / 4503599627370496 - 1 = k at *
          rw [this, Nat.pow_succ]; omega
        have e3 : 4503599627370496 * 2 ^ (r / 4503599627370496) ≤ 4503599627370496 * 2 ^ (s / 4503599627370496 - 1) := Nat.mul_le_mul_left _ (Nat.pow_le_pow_right (by omega) (by omega))
        have e4 : 4503599627370496 * 2 ^ (s / 4503599627370496 - 1) ≤ (4503599627370496 + s % 4503599627370496) * 2 ^ (s / 4503599627370496 - 1) := Nat.mul_le_mul_right _ (by omega)
        omega
      · have e1 : r / 4503599627370496 = s / 4503599627370496 := by omega
        rw [e1]; exact Nat.mul_lt_mul_of_pos_right (by omega) (Nat.two_pow_pos _)
theorem val_lt_iff {r s : Nat} : val r < val s ↔ r < s := by
  refine ⟨fun h => ?_, val_lt⟩
  rcases Nat.lt_trichotomy r s with g | g | g
  · exact g
  · subst g; omega
  · have := val_lt g; omega
theorem val_eq_iff {r s : Nat} : val r = val s ↔ r = s := by
  refine ⟨fun h => ?_, fun h => by rw [h]⟩
  rcases Nat.lt_trichotomy r s with g | g | g
  · have := val_lt g; omega
  · exact g
  · have := val_lt g; omega

/-! ### What is read of a float's bits -/
theorem read_inf {x : Nat} (h : rung x = 9218868437227405312) : Ieee.double.read x = .infinity (neg x) := by
  have h' : x % 9223372036854775808 = 9218868437227405312 := h
  simp [Ieee.Format.read, Ieee.double, Ieee.Format.signWeight, Ieee.Format.binade, Ieee.Format.infRung, h', neg]
theorem read_nan {x : Nat} (h : 9218868437227405312 < rung x) : Ieee.double.read x = .nan (neg x) (rung x - 9218868437227405312) := by
  have h' : 9218868437227405312 < x % 9223372036854775808 := h
  have h1 : ¬ x % 9223372036854775808 < 4503599627370496 := by omega
  have h2 : ¬ x % 9223372036854775808 < 9218868437227405312 := by omega
  have h3 : ¬ x % 9223372036854775808 = 9218868437227405312 := by omega
  simp [Ieee.Format.read, Ieee.double, Ieee.Format.signWeight, Ieee.Format.binade, Ieee.Format.infRung, h1, h2, h3, neg, rung]
/-- A number: how great it is, in units of the least one, by its rung. -/
theorem read_num {x : Nat} (h : rung x < 9218868437227405312) : ∃ (m k : Nat), Ieee.double.read x = .number (neg x) m (-1074 + (k : Int)) ∧ val (rung x) = m * 2 ^ k ∧ k ≤ 2045 := by
  have h' : x % 9223372036854775808 < 9218868437227405312 := h
  by_cases h1 : x % 9223372036854775808 < 4503599627370496
  · refine ⟨rung x, 0, ?_, ?_, by omega⟩
    · simp [Ieee.Format.read, Ieee.double, Ieee.Format.signWeight, Ieee.Format.binade, Ieee.Format.leastPlace, h1, neg, rung]
    · have : rung x < 4503599627370496 := h1
      simp [val, this]
  · refine ⟨4503599627370496 + rung x % 4503599627370496, rung x / 4503599627370496 - 1, ?_, ?_, ?_⟩
    · simp [Ieee.Format.read, Ieee.double, Ieee.Format.signWeight, Ieee.Format.binade, Ieee.Format.infRung, Ieee.Format.leastPlace, h1, h', neg, rung]
    · have : ¬ rung x < 4503599627370496 := h1
      simp [val, this]
    · omega

/-! ### How two stand to each other -/
theorem compare_congr {a b c d : Int} (h1 : a < b ↔ c < d) (h2 : a = b ↔ c = d) : compare a b = compare c d := by
  show (if a < b then Ordering.lt else if a = b then .eq else .gt) = (if c < d then Ordering.lt else if c = d then .eq else .gt)
  simp only [h1, h2]
theorem signed_eq (s : Bool) (m k : Nat) : Ieee.signed s m k = if s then -((m * 2 ^ k : Nat) : Int) else ((m * 2 ^ k : Nat) : Int) := by
  simp only [Ieee.signed, Nat.shiftLeft_eq]
theorem val_zero_iff {r : Nat} : val r = 0 ↔ r = 0 := by
  have h : val 0 = 0 := by simp [val]
  exact ⟨fun e => val_eq_iff.1 (e.trans h.symm), fun e => by rw [e, h]⟩
theorem ord_num {x y : Nat} (hx : rung x < 9218868437227405312) (hy : rung y < 9218868437227405312) : Ieee.double.order x y = some (compare (sk x) (sk y)) := by
  obtain ⟨m, k, ex, vx, _⟩ := read_num hx
  obtain ⟨n, j, ey, vy, _⟩ := read_num hy
  unfold Ieee.Format.order
  rw [ex, ey]
  simp only [Ieee.Datum.order]
  congr 1
  rw [signed_eq, signed_eq, show ((-1074 + (k : Int)) - min (-1074 + (k : Int)) (-1074 + (j : Int))).toNat = k - min k j by omega, show ((-1074 + (j : Int)) - min (-1074 + (k : Int)) (-1074 + (j : Int))).toNat = j - min k j by omega]
  have ek : 2 ^ k = 2 ^ (k - min k j) * 2 ^ (min k j) := by rw [← Nat.pow_add]; congr 1; omega
  have ej : 2 ^ j = 2 ^ (j - min k j) * 2 ^ (min k j) := by rw [← Nat.pow_add]; congr 1; omega
  rw [ek, ← Nat.mul_assoc] at vx
  rw [ej, ← Nat.mul_assoc] at vy
  have hp : 0 < 2 ^ (min k j) := Nat.two_pow_pos _
  generalize 2 ^ (min k j) = p at *
  generalize m * 2 ^ (k - min k j) = M at *
  generalize n * 2 ^ (j - min k j) = N at *
  have h1 : M < N ↔ rung x < rung y := by rw [← val_lt_iff (r := rung x), vx, vy]; exact (Nat.mul_lt_mul_right hp).symm
  have h2 : N < M ↔ rung y < rung x := by rw [← val_lt_iff (r := rung y), vx, vy]; exact (Nat.mul_lt_mul_right hp).symm
  have h3 : M = 0 ↔ rung x = 0 := by rw [← val_zero_iff (r := rung x), vx, Nat.mul_eq_zero]; omega
  have h4 : N = 0 ↔ rung y = 0 := by rw [← val_zero_iff (r := rung y), vy, Nat.mul_eq_zero]; omega
  unfold sk
  clear vx vy ek ej ex ey hx hy
  generalize rung x = a at *
  generalize rung y = b at *
  refine compare_congr ?_ ?_ <;> cases neg x <;> cases neg y <;> simp only [if_true, if_false, Bool.false_eq_true] <;> omega
theorem ord_some {x y : Nat} (hx : rung x ≤ 9218868437227405312) (hy : rung y ≤ 9218868437227405312) : Ieee.double.order x y = some (compare (sk x) (sk y)) := by
  rcases Nat.lt_or_eq_of_le hx with hx' | hx'
  · rcases Nat.lt_or_eq_of_le hy with hy' | hy'
    · exact ord_num hx' hy'
    · obtain ⟨m, k, ex, _, _⟩ := read_num hx'
      unfold Ieee.Format.order
      rw [ex, read_inf hy']
      simp only [Ieee.Datum.order, sk]
      congr 1
      show _ = (if _ then Ordering.lt else if _ then .eq else .gt)
      rw [hy']
      cases neg x <;> cases neg y <;> simp only [if_true, if_false, Bool.false_eq_true] <;> split <;> first | rfl | omega | (split <;> first | rfl | omega)
  · rcases Nat.lt_or_eq_of_le hy with hy' | hy'
    · obtain ⟨m, k, ex, _, _⟩ := read_num hy'
      unfold Ieee.Format.order
      rw [ex, read_inf hx']
      simp only [Ieee.Datum.order, sk]
      congr 1
      show _ = (if _ then Ordering.lt else if _ then .eq else .gt)
      rw [hx']
      cases neg x <;> cases neg y <;> simp only [if_true, if_false, Bool.false_eq_true] <;> split <;> first | rfl | omega | (split <;> first | rfl | omega)
    · unfold Ieee.Format.order
      rw [read_inf hy', read_inf hx']
      simp only [Ieee.Datum.order, sk]
      rw [hx', hy']
      cases neg x <;> cases neg y <;> rfl
theorem ord_none {x y : Nat} (h : 9218868437227405312 < rung x ∨ 9218868437227405312 < rung y) : Ieee.double.order x y = none := by
  unfold Ieee.Format.order
  rcases h with h | h
  · rw [read_nan h]; rfl
  · rw [read_nan h]; cases Ieee.double.read x <;> rfl

/-! ### The tests that Go makes -/
theorem nan_iff {x : Nat} : nan x = true ↔ 9218868437227405312 < rung x := by simp [nan]
theorem num_iff {x : Nat} : nan x = false ↔ rung x ≤ 9218868437227405312 := by simp [nan]
theorem rung_lt (x : Nat) : rung x < 9223372036854775808 := Nat.mod_lt _ (by omega)
theorem eqB (x y : Nat) : (FloatKind.f64.format.order x y == some .eq) = (!nan x && !nan y && decide (sk x = sk y)) := by
  show (Ieee.double.order x y == some .eq) = _
  cases hx : nan x
  · cases hy : nan y
    · rw [ord_some (num_iff.1 hx) (num_iff.1 hy)]
      show ((some (if _ then Ordering.lt else if _ then .eq else .gt)) == some .eq) = _
      by_cases h1 : sk x < sk y
      · rw [if_pos h1]; simp; omega
      · rw [if_neg h1]
        by_cases h2 : sk x = sk y
        · rw [if_pos h2]; simp [h2]
        · rw [if_neg h2]; simp [h2]
    · rw [ord_none (.inr (nan_iff.1 hy))]; rfl
  · rw [ord_none (.inl (nan_iff.1 hx))]; rfl
theorem ltB (x y : Nat) : (FloatKind.f64.format.order x y == some .lt) = (!nan x && !nan y && decide (sk x < sk y)) := by
  show (Ieee.double.order x y == some .lt) = _
  cases hx : nan x
  · cases hy : nan y
    · rw [ord_some (num_iff.1 hx) (num_iff.1 hy)]
      show ((some (if _ then Ordering.lt else if _ then .eq else .gt)) == some .lt) = _
      by_cases h1 : sk x < sk y
      · rw [if_pos h1]; simp [h1]
      · rw [if_neg h1]
        by_cases h2 : sk x = sk y
        · rw [if_pos h2]; simp [h2]
        · rw [if_neg h2]; simp [h1]
    · rw [ord_none (.inr (nan_iff.1 hy))]; rfl
  · rw [ord_none (.inl (nan_iff.1 hx))]; rfl
theorem selfB (x : Nat) : (FloatKind.f64.format.order x x == some .eq) = !nan x := by
  rw [eqB]; cases nan x <;> simp
theorem selfN (x : Nat) : (FloatKind.f64.format.order x x != some .eq) = nan x := by
  unfold bne; rw [selfB]; simp

/-! ### What is below -/
theorem below_nan1 {x y : Nat} (h : nan x = true) : below x y = false := by
  have := rung_lt y
  have hy := @num_iff y
  unfold below key
  rw [h]
  simp only [if_true, decide_eq_false_iff_not]
  cases nan y <;> cases neg y <;> simp only [if_true, if_false, Bool.false_eq_true] <;> omega
theorem below_nan2 {x y : Nat} (h : nan x = false) (h' : nan y = true) : below x y = true := by
  have := rung_lt x
  unfold below key
  rw [h, h']
  simp only [if_true, if_false, Bool.false_eq_true, decide_eq_true_eq]
  cases neg x <;> simp only [if_true, if_false, Bool.false_eq_true] <;> omega
theorem below_eq {x y : Nat} (h : nan x = false) (h' : nan y = false) (e : sk x = sk y) : below x y = (neg x && !neg y) := by
  unfold below key
  unfold sk at e
  rw [h, h']
  cases hx : neg x <;> cases hy : neg y <;> simp only [hx, hy, if_true, if_false, Bool.false_eq_true, decide_eq_true_eq, Bool.and_true, Bool.and_false, Bool.not_true, Bool.not_false, decide_eq_false_iff_not] at e ⊢ <;> omega
theorem below_ne {x y : Nat} (h : nan x = false) (h' : nan y = false) (e : ¬ sk x = sk y) : below x y = decide (sk x < sk y) := by
  unfold below key
  unfold sk at e ⊢
  rw [h, h']
  cases hx : neg x <;> cases hy : neg y <;> simp only [hx, hy, if_true, if_false, Bool.false_eq_true, decide_eq_decide] at e ⊢ <;> omega
theorem key_inj {x y : Nat} (hx : x < 18446744073709551616) (hy : y < 18446744073709551616) (n : ¬ (nan x = true ∧ nan y = true)) (e : key x = key y) : x = y := by
  have lx := rung_lt x
  have ly := rung_lt y
  have kx : x = (if neg x then 9223372036854775808 else 0) + rung x := by
    unfold neg rung; simp only [beq_iff_eq]; split <;> omega
  have ky : y = (if neg y then 9223372036854775808 else 0) + rung y := by
    unfold neg rung; simp only [beq_iff_eq]; split <;> omega
  rw [kx, ky]
  unfold key at e
  clear kx ky
  cases nx : nan x <;> cases ny : nan y <;> cases gx : neg x <;> cases gy : neg y <;> simp only [nx, ny, gx, gy, if_true, if_false, Bool.false_eq_true] at e n ⊢ <;> first | omega | simp at n
theorem same_iff {x y : Nat} (hx : x < 18446744073709551616) (hy : y < 18446744073709551616) : same x y = true ↔ key x = key y := by
  unfold same
  constructor
  · intro h
    simp only [Bool.or_eq_true, Bool.and_eq_true, beq_iff_eq] at h
    rcases h with ⟨h1, h2⟩ | h
    · unfold key; rw [h1, h2]; rfl
    · rw [h]
  · intro h
    by_cases n : nan x = true ∧ nan y = true
    · simp [n.1, n.2]
    · simp [key_inj hx hy n h]
theorem below_iff {x y : Nat} : below x y = true ↔ key x < key y := by simp [below]
theorem below_off {x y : Nat} : below x y = false ↔ key y ≤ key x := by simp [below]
theorem one_below {x y : Nat} (hx : x < 18446744073709551616) (hy : y < 18446744073709551616) : (below x y || below y x) = !same x y := by
  cases h : same x y
  · have : ¬ key x = key y := fun e => by rw [(same_iff hx hy).2 e] at h; cases h
    simp [below]; omega
  · have := (same_iff hx hy).1 h
    simp [below]; omega
theorem both_below (x y : Nat) : (below x y && below y x) = false := by
  simp [below]; omega
theorem self_below (x : Nat) : below x x = false := by simp [below]
end Go.Proofs.Ytohdhndjbpfliaa
