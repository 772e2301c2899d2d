/-
  Part of package ratio, and the document's own answer for it, each met by a contract: whatever two ints come in, they return bits that stand for the plain 'part', and draw at most; and when 'part' is a number, and below 0.
-/
import Derived.Test.YtohdhndjbpfliaaRatioSumNum
import Derived.Test.YtohdhndjbpfliaaFresh
namespace Go.Proofs.Ytohdhndjbpfliaa
open Go.ChangeShapes Go.WideShapes Go.ChangeAt Go.RowKit

/-! ### Which parts are numbers, and which are below 0 -/
theorem near_zero : Ieee.double.read (floatOfInt .f64 0) = .number false 0 (-1074) := by decide +kernel
theorem near_of {n : Int} (h0 : n ≠ 0) (h1 : -9223372036854775808 ≤ n) (h2 : n ≤ 9223372036854775807) :
    ∃ m p, Ieee.double.read (floatOfInt .f64 n) = .number (decide (n < 0)) m p ∧ 4503599627370496 ≤ m ∧ m < 9007199254740992 ∧ -52 ≤ p ∧ p ≤ 12 :=
  near_read (decide (n < 0)) (n := n.natAbs) (by omega) (by omega)
theorem part_eq (a b : Int) : part a b = ((Ieee.double.read (floatOfInt .f64 a)).quotient 54 (Ieee.double.read (floatOfInt .f64 b))).map Ieee.double.write := rfl
theorem part_some {a b : Int} (a1 : -9223372036854775808 ≤ a) (a2 : a ≤ 9223372036854775807) (b1 : -9223372036854775808 ≤ b) (b2 : b ≤ 9223372036854775807) :
    (part a b).isSome = (a != 0 || b != 0) := by
  rw [part_eq]
  by_cases ha : a = 0
  · subst ha
    rw [near_zero]
    by_cases hb : b = 0
    · subst hb; rw [near_zero]; rfl
    · obtain ⟨m, p, e, m1, m2, _, _⟩ := near_of hb b1 b2
      have : ¬ m = 0 := by omega
      rw [e]
      simp [Ieee.Datum.quotient, this, hb]
  · obtain ⟨m, p, e, m1, m2, _, _⟩ := near_of ha a1 a2
    have hm : ¬ m = 0 := by omega
    rw [e]
    by_cases hb : b = 0
    · subst hb; rw [near_zero]; simp [Ieee.Datum.quotient, hm, ha]
    · obtain ⟨n, q, e', n1, n2, _, _⟩ := near_of hb b1 b2
      have : ¬ n = 0 := by omega
      rw [e']
      simp [Ieee.Datum.quotient, this, ha]
theorem log_53 {m : Nat} (h1 : 4503599627370496 ≤ m) (h2 : m < 9007199254740992) : m.log2 = 52 := by
  have h0 : m ≠ 0 := by omega
  have l1 : 2 ^ m.log2 ≤ m := Nat.log2_self_le h0
  have l2 : m < 2 ^ (m.log2 + 1) := Nat.lt_log2_self
  rcases Nat.lt_trichotomy m.log2 52 with g | g | g
  · have : 2 ^ (m.log2 + 1) ≤ 2 ^ 52 := Nat.pow_le_pow_right (by omega) (by omega)
    omega
  · exact g
  · have : 2 ^ 53 ≤ 2 ^ m.log2 := Nat.pow_le_pow_right (by omega) (by omega)
    omega
theorem quo_great {m n : Nat} (m1 : 4503599627370496 ≤ m) (_ : m < 9007199254740992) (n1 : 4503599627370496 ≤ n) (n2 : n < 9007199254740992) :
    2 * ((m <<< (54 + 52 - 52)) / n) + ((m <<< (54 + 52 - 52)) % n != 0).toNat ≠ 0 ∧ 54 ≤ (2 * ((m <<< (54 + 52 - 52)) / n) + ((m <<< (54 + 52 - 52)) % n != 0).toNat).log2 := by
  have g1 : 9007199254740992 * n ≤ 9007199254740992 * 9007199254740992 := Nat.mul_le_mul_left _ (by omega)
  have g2 : 4503599627370496 * 18014398509481984 ≤ m * 18014398509481984 := Nat.mul_le_mul_right _ (by omega)
  have g3 : 9007199254740992 * n ≤ m * 18014398509481984 := Nat.le_trans g1 g2
  have hd : 9007199254740992 ≤ (m <<< (54 + 52 - 52)) / n := by
    rw [Nat.le_div_iff_mul_le (by omega), Nat.shiftLeft_eq]
    exact g3
  generalize (m <<< (54 + 52 - 52)) / n = A at *
  generalize ((m <<< (54 + 52 - 52)) % n != 0).toNat = B at *
  clear g1 g2 g3
  have h0 : 2 * A + B ≠ 0 := by omega
  exact ⟨h0, (Nat.le_log2 h0).2 (show 18014398509481984 ≤ _ by omega)⟩
theorem nearest_pos {s : Bool} {q : Nat} {p : Int} (h0 : q ≠ 0) (h : -1000 ≤ p + q.log2 - 52) : ∃ r, 0 < r ∧ r ≤ 9218868437227405312 ∧ Ieee.double.nearest s q p = Ieee.double.word s r := by
  unfold Ieee.Format.nearest
  rw [if_neg h0]
  refine ⟨_, ?_, Nat.min_le_right _ _, rfl⟩
  have e3 : Ieee.double.binade = 4503599627370496 := by decide
  have e : 1 ≤ (max (p + q.log2 - Ieee.double.fractionBits) Ieee.double.leastPlace - Ieee.double.leastPlace).toNat := by
    rw [show Ieee.double.leastPlace = -1074 from by decide]
    show 1 ≤ (max (p + q.log2 - ((52 : Nat) : Int)) (-1074) - (-1074)).toNat
    omega
  rw [e3]
  have := Nat.mul_le_mul_right 4503599627370496 e
  omega
theorem sk_word {s : Bool} {r : Nat} (h : r ≤ 9218868437227405312) : sk (Ieee.double.word s r) = if s then -(r : Int) else r := by
  unfold sk
  rw [neg_word (by omega), rung_word (by omega)]
theorem sk_zero : sk 0 = 0 := by decide
theorem part_neg {a b : Int} (a1 : -9223372036854775808 ≤ a) (a2 : a ≤ 9223372036854775807) (b1 : 1 ≤ b) (b2 : b ≤ 9223372036854775807) {v : Nat} (hv : Rep (part a b) v) :
    (FloatKind.f64.format.order v 0 == some .lt) = decide (a < 0) := by
  have hs : (part a b).isSome = true := by
    rw [part_some a1 a2 (by omega) b2]
    have : (b != 0) = true := by simp; omega
    simp [this]
  cases hp : part a b with
  | none => rw [hp] at hs; cases hs
  | some r =>
    rw [hp] at hv
    obtain ⟨hlt, rfl, hn⟩ := hv
    rw [ltB, hn, sk_zero, show nan 0 = false from by decide]
    rw [part_eq] at hp
    obtain ⟨n, q, e', n1, n2, q1, q2⟩ := near_of (n := b) (by omega) (by omega) b2
    have hn0 : ¬ n = 0 := by omega
    have hb : decide (b < 0) = false := by simp; omega
    rw [e', hb] at hp
    by_cases ha : a = 0
    · subst ha
      rw [near_zero] at hp
      simp [Ieee.Datum.quotient, hn0] at hp
      rw [← hp]
      show (true && true && decide (sk (Ieee.double.nearest false 0 _) < 0)) = _
      obtain ⟨r, hr, e⟩ := nearest_word false 0 (-1074 - q - (54 + n.log2) - 1)
      rw [e, sk_word hr]
      simp
    · obtain ⟨m, p, e, m1, m2, p1, p2⟩ := near_of ha a1 a2
      rw [e] at hp
      simp only [Ieee.Datum.quotient, if_neg hn0, Option.map_some, Bool.xor_false] at hp
      injection hp with hp
      rw [← hp]
      rw [log_53 m1 m2, log_53 n1 n2]
      show (true && true && decide (sk (Ieee.double.nearest _ _ _) < 0)) = _
      have hq := quo_great m1 m2 n1 n2
      obtain ⟨hQ0, hQl⟩ := hq
      generalize 2 * ((m <<< (54 + 52 - 52)) / n) + ((m <<< (54 + 52 - 52)) % n != 0).toNat = Q at hQ0 hQl ⊢
      clear hp
      obtain ⟨r, r0, r1, er⟩ := nearest_pos (s := decide (a < 0)) (q := Q) (p := p - q - ((54 + 52 - 52 : Nat) : Int) - 1) hQ0 (by omega)
      rw [er, sk_word r1]
      by_cases hneg : a < 0
      · simp [hneg]; omega
      · simp [hneg]

/-! ### Part -/
/-- It returns bits that stand for o, and draws at most. -/
def FQ (o : Option Nat) (w : World) (e : Ending) (w' : World) : Prop := ∃ v, e = .returned (.float .f64 v) ∧ Rep o v ∧ ∃ d, w' = w.drewN d

theorem part_any (a b : Int) (w : World) : Calls Try.prog 9 #[.int .i64 a, .int .i64 b] w (FQ (part a b) w) := by
  obtain ⟨v, d, hr, hv⟩ := run_arith Try.prog .quo (.inr rfl) (floatOfInt .f64 a) (floatOfInt .f64 b) w
  have HV : Rep (part a b) v := hv
  clear hv
  go_enter Try.func9, Try.ntmps9
  go_wp2_with (simp only [hr])
  go_ret
  exact ⟨v, rfl, HV, d, rfl⟩

theorem refPart_any (a b : Int) (w : World) : Calls Try.prog 11 #[.int .i64 a, .int .i64 b] w (FQ (part a b) w) := by
  obtain ⟨v, d, hr, hv⟩ := run_arith Try.prog .quo (.inr rfl) (floatOfInt .f64 a) (floatOfInt .f64 b) w
  have HV : Rep (part a b) v := hv
  clear hv
  go_enter Try.func11, Try.ntmps11
  go_wp2_with (simp only [hr])
  go_ret
  exact ⟨v, rfl, HV, d, rfl⟩
end Go.Proofs.Ytohdhndjbpfliaa
