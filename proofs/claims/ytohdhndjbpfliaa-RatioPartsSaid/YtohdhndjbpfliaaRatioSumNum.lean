/-
  Sums and quotients of floats as plain numbers, 'none' for what is no number: parts, sums, means. No statement about a Go function.
-/
import Derived.Test.YtohdhndjbpfliaaRatioNum
import Derived.Deep.Draws
namespace Go.Proofs.Ytohdhndjbpfliaa

/-! ### What is written is a number -/
theorem rung_word {s : Bool} {r : Nat} (h : r < 9223372036854775808) : rung (Ieee.double.word s r) = r := by
  show (if s = true then 9223372036854775808 + r else r) % 9223372036854775808 = r
  cases s <;> simp <;> omega
theorem neg_word {s : Bool} {r : Nat} (h : r < 9223372036854775808) : neg (Ieee.double.word s r) = s := by
  have e : Ieee.double.word s r = if s = true then 9223372036854775808 + r else r := rfl
  rw [e]
  unfold neg
  cases s <;> simp <;> omega
theorem nearest_word (s : Bool) (m : Nat) (p : Int) : ∃ r, r ≤ 9218868437227405312 ∧ Ieee.double.nearest s m p = Ieee.double.word s r := by
  unfold Ieee.Format.nearest
  by_cases h : m = 0
  · rw [if_pos h]; exact ⟨0, by omega, rfl⟩
  · rw [if_neg h]; exact ⟨_, Nat.min_le_right _ _, rfl⟩
theorem nearest_num (s : Bool) (m : Nat) (p : Int) : nan (Ieee.double.nearest s m p) = false := by
  obtain ⟨r, hr, e⟩ := nearest_word s m p
  rw [e, num_iff, rung_word (by omega)]
  exact hr
theorem inf_num (s : Bool) : nan (Ieee.double.write (.infinity s)) = false := by
  cases s <;> decide +kernel
theorem sum_num {d e f : Ieee.Datum} (h : d.sum e = some f) : nan (Ieee.double.write f) = false := by
  cases d <;> cases e <;> simp only [Ieee.Datum.sum] at h
  all_goals first
    | (cases h; done)
    | (injection h with h; subst h; first | exact inf_num _ | exact nearest_num _ _ _)
    | (split at h <;> first | (cases h; done) | (injection h with h; subst h; exact inf_num _))
theorem quo_num {k : Nat} {d e f : Ieee.Datum} (h : d.quotient k e = some f) : nan (Ieee.double.write f) = false := by
  cases d <;> cases e <;> simp only [Ieee.Datum.quotient] at h
  all_goals first
    | (cases h; done)
    | (injection h with h; subst h; first | exact inf_num _ | exact nearest_num _ _ _)
    | (split at h <;> first | (split at h <;> first | (cases h; done) | (injection h with h; subst h; exact inf_num _)) | (injection h with h; subst h; exact nearest_num _ _ _))

/-! ### Sums and quotients that may be no number -/
def plus (x y : Nat) : Option Nat := floatBits .add .f64 x y
def by_ (x y : Nat) : Option Nat := floatBits .quo .f64 x y
theorem lt_of_bits {op : BinOp} {x y r : Nat} (h : floatBits op .f64 x y = some r) : r < 18446744073709551616 := by
  simpa [Lit.wf] using floatBits_wf h
theorem plus_num {x y r : Nat} (h : plus x y = some r) : nan r = false := by
  have h' : ((Ieee.double.read x).sum (Ieee.double.read y)).map Ieee.double.write = some r := h
  cases e : (Ieee.double.read x).sum (Ieee.double.read y) with
  | none => rw [e] at h'; cases h'
  | some d => rw [e] at h'; injection h' with h'; rw [← h']; exact sum_num e
theorem by_num {x y r : Nat} (h : by_ x y = some r) : nan r = false := by
  have h' : ((Ieee.double.read x).quotient 54 (Ieee.double.read y)).map Ieee.double.write = some r := h
  cases e : (Ieee.double.read x).quotient 54 (Ieee.double.read y) with
  | none => rw [e] at h'; cases h'
  | some d => rw [e] at h'; injection h' with h'; rw [← h']; exact quo_num e
theorem plus_nan {x y : Nat} (h : nan x = true) : plus x y = none := by
  show ((Ieee.double.read x).sum (Ieee.double.read y)).map Ieee.double.write = none
  rw [read_nan (nan_iff.1 h)]; rfl
theorem by_nan {x y : Nat} (h : nan x = true) : by_ x y = none := by
  show ((Ieee.double.read x).quotient 54 (Ieee.double.read y)).map Ieee.double.write = none
  rw [read_nan (nan_iff.1 h)]; rfl

/-- A float's bits v stand for o: the number r, or no number. -/
def Rep (o : Option Nat) (v : Nat) : Prop := v < 18446744073709551616 ∧ match o with | some r => v = r ∧ nan r = false | none => nan v = true
theorem Rep.lt {o : Option Nat} {v : Nat} (h : Rep o v) : v < 18446744073709551616 := h.1
theorem Rep.num {o : Option Nat} {v : Nat} (h : Rep o v) : nan v = !o.isSome := by
  cases o with
  | none => exact h.2
  | some r => obtain ⟨_, e, f⟩ := h; rw [e, f]; rfl
theorem Rep.same {o : Option Nat} {v u : Nat} (h : Rep o v) (k : Rep o u) : same v u = true := by
  cases o with
  | none => unfold Go.Proofs.Ytohdhndjbpfliaa.same; rw [h.2, k.2]; rfl
  | some r => unfold Go.Proofs.Ytohdhndjbpfliaa.same; rw [h.2.1, k.2.1]; simp
theorem Rep.plus {o : Option Nat} {v : Nat} (h : Rep o v) (x : Nat) : Go.Proofs.Ytohdhndjbpfliaa.plus v x = o.bind fun r => Go.Proofs.Ytohdhndjbpfliaa.plus r x := by
  cases o with
  | none => rw [plus_nan h.2]; rfl
  | some r => rw [h.2.1]; rfl
theorem Rep.by_ {o : Option Nat} {v : Nat} (h : Rep o v) (x : Nat) : Go.Proofs.Ytohdhndjbpfliaa.by_ v x = o.bind fun r => Go.Proofs.Ytohdhndjbpfliaa.by_ r x := by
  cases o with
  | none => rw [by_nan h.2]; rfl
  | some r => rw [h.2.1]; rfl

def part (a b : Int) : Option Nat := by_ (floatOfInt .f64 a) (floatOfInt .f64 b)
/-- The sum of the first k, in turn. -/
def sumO (xs : List Nat) : Option Nat := xs.foldl (fun o x => o.bind fun r => plus r x) (some 0)
def meanO (xs : List Nat) : Option Nat := (sumO xs).bind fun r => by_ r (floatOfInt .f64 xs.length)
theorem sumO_snoc (xs : List Nat) (x : Nat) : sumO (xs ++ [x]) = (sumO xs).bind fun r => plus r x := by simp [sumO]
theorem sumO_take {xs : List Nat} {k x : Nat} (h : xs[k]? = some x) : sumO (xs.take (k + 1)) = (sumO (xs.take k)).bind fun r => plus r x := by
  rw [List.take_add_one, h]; exact sumO_snoc _ _
theorem rep_zero : Rep (some 0) 0 := ⟨by omega, rfl, by decide⟩

/-- A NaN that is drawn is one. -/
theorem cut_nan (x y t : Nat) : Rep none (Question.cut (.nanBits .f64 x y) t) := by
  show (t % 2) * 2 ^ 63 + 0x7ff0000000000000 + 1 + (t / 2) % (2 ^ 52 - 1) < 18446744073709551616 ∧ nan ((t % 2) * 2 ^ 63 + 0x7ff0000000000000 + 1 + (t / 2) % (2 ^ 52 - 1)) = true
  rw [nan_iff]
  unfold rung
  have h1 : (t / 2) % (2 ^ 52 - 1) < 2 ^ 52 - 1 := Nat.mod_lt _ (by omega)
  generalize (t / 2) % (2 ^ 52 - 1) = u at *
  have h2 : t % 2 = 0 ∨ t % 2 = 1 := by omega
  rcases h2 with h2 | h2 <;> rw [h2] <;> omega
theorem run_arith (P : Program) (op : BinOp) (h : op = .add ∨ op = .quo) (x y : Nat) (w : World) : ∃ v d, (∀ t, (binOp op t (.float .f64 x) (.float .f64 y)).run P w = .ok (.float .f64 v) (w.drewN d)) ∧ Rep (floatBits op .f64 x y) v := by
  cases e : floatBits op .f64 x y with
  | some r => exact ⟨r, 0, fun t => run_float_arith w op t .f64 x y r e, lt_of_bits e, rfl, by rcases h with rfl | rfl; exact plus_num e; exact by_num e⟩
  | none =>
    refine ⟨_, 1, fun t => ?_, cut_nan x y (w.tape w.drawn (.nanBits .f64 x y))⟩
    unfold floatBits at e
    rcases h with rfl | rfl <;> simp only at e <;> simp [binOp, Op.floatArith, e, Question.forced] <;> rfl

/-! ### Parts -/
theorem cut_even (s : Bool) (n d : Nat) : n / 2 ^ min d (n.log2 + 2) ≤ Ieee.Toward.even.cut s n d ∧ Ieee.Toward.even.cut s n d ≤ n / 2 ^ min d (n.log2 + 2) + 1 := by
  unfold Ieee.Toward.cut
  simp only [Nat.shiftLeft_eq, Nat.one_mul]
  exact ⟨Nat.le_add_right _ _, Nat.add_le_add_left (Bool.toNat_le _) _⟩
theorem cut_zero (s : Bool) (n : Nat) : Ieee.Toward.even.cut s n 0 = n := by
  unfold Ieee.Toward.cut
  simp [Nat.mod_one]
theorem read_norm {x : Nat} (h1 : 4503599627370496 ≤ rung x) (h2 : rung x < 9218868437227405312) : Ieee.double.read x = .number (neg x) (4503599627370496 + rung x % 4503599627370496) (-1074 + ((rung x / 4503599627370496 - 1 : Nat) : Int)) := by
  have h1' : ¬ x % 9223372036854775808 < 4503599627370496 := by unfold rung at h1; omega
  have h2' : x % 9223372036854775808 < 9218868437227405312 := h2
  simp [Ieee.Format.read, Ieee.double, Ieee.Format.signWeight, Ieee.Format.binade, Ieee.Format.infRung, Ieee.Format.leastPlace, h1', h2', neg, rung]
theorem read_word {s : Bool} {r : Nat} (h1 : 4503599627370496 ≤ r) (h2 : r < 9218868437227405312) : Ieee.double.read (Ieee.double.word s r) = .number s (4503599627370496 + r % 4503599627370496) (-1074 + ((r / 4503599627370496 - 1 : Nat) : Int)) := by
  rw [read_norm (by rw [rung_word (by omega)]; exact h1) (by rw [rung_word (by omega)]; exact h2), rung_word (by omega), neg_word (by omega)]
/-- A whole number of 63 bits that isn't 0 is read as a number of 53 digits. -/
theorem near_read (s : Bool) {n : Nat} (h0 : n ≠ 0) (h : n ≤ 9223372036854775808) :
    ∃ m p, Ieee.double.read (Ieee.double.nearest s n 0) = .number s m p ∧ 4503599627370496 ≤ m ∧ m < 9007199254740992 ∧ -52 ≤ p ∧ p ≤ 12 := by
  have l1 : 2 ^ n.log2 ≤ n := Nat.log2_self_le h0
  have l2 : n < 2 ^ (n.log2 + 1) := Nat.lt_log2_self
  have l3 : n.log2 ≤ 63 := by
    rcases Nat.lt_or_ge n.log2 64 with g | g
    · omega
    · have : 2 ^ 64 ≤ 2 ^ n.log2 := Nat.pow_le_pow_right (by omega) g
      omega
  have key : ∃ k, 4503599627370496 ≤ k ∧ k ≤ 9007199254740992 ∧ Ieee.double.nearest s n 0 = Ieee.double.word s (min ((n.log2 + 1022) * 4503599627370496 + k) 9218868437227405312) := by
    unfold Ieee.Format.nearest
    rw [if_neg h0]
    have e : max ((0 : Int) + n.log2 - Ieee.double.fractionBits) Ieee.double.leastPlace = (n.log2 : Int) - 52 := by
      show max ((0 : Int) + n.log2 - ((52 : Nat) : Int)) (-1074) = _
      omega
    have e2 : ((n.log2 : Int) - 52 - Ieee.double.leastPlace).toNat = n.log2 + 1022 := by
      rw [show Ieee.double.leastPlace = -1074 from by decide]
      omega
    have e3 : Ieee.double.binade = 4503599627370496 := by decide
    have e4 : Ieee.double.infRung = 9218868437227405312 := by decide
    simp only [e, e2, e3, e4]
    refine ⟨_, ?_, ?_, rfl⟩
    all_goals
      rcases Nat.lt_or_ge 52 n.log2 with g | g
    · rw [show ((0 : Int) - ((n.log2 : Int) - 52)).toNat = 0 by omega, show ((n.log2 : Int) - 52 - 0).toNat = n.log2 - 52 by omega, Nat.shiftLeft_zero]
      refine Nat.le_trans ?_ (cut_even s n (n.log2 - 52)).1
      rw [Nat.min_eq_left (by omega), Nat.le_div_iff_mul_le (Nat.two_pow_pos _)]
      refine Nat.le_trans ?_ l1
      show 2 ^ 52 * _ ≤ _
      rw [← Nat.pow_add, show 52 + (n.log2 - 52) = n.log2 by omega]
      exact Nat.le_refl _
    · rw [show ((0 : Int) - ((n.log2 : Int) - 52)).toNat = 52 - n.log2 by omega, show ((n.log2 : Int) - 52 - 0).toNat = 0 by omega, cut_zero, Nat.shiftLeft_eq]
      have : 2 ^ 52 = 2 ^ n.log2 * 2 ^ (52 - n.log2) := by rw [← Nat.pow_add]; congr 1; omega
      show 2 ^ 52 ≤ _
      rw [this]
      exact Nat.mul_le_mul_right _ l1
    · rw [show ((0 : Int) - ((n.log2 : Int) - 52)).toNat = 0 by omega, show ((n.log2 : Int) - 52 - 0).toNat = n.log2 - 52 by omega, Nat.shiftLeft_zero]
      refine Nat.le_trans (cut_even s n (n.log2 - 52)).2 ?_
      rw [Nat.min_eq_left (by omega)]
      have : n / 2 ^ (n.log2 - 52) < 2 ^ 53 := by
        rw [Nat.div_lt_iff_lt_mul (Nat.two_pow_pos _), ← Nat.pow_add, show 53 + (n.log2 - 52) = n.log2 + 1 by omega]
        exact l2
      omega
    · rw [show ((0 : Int) - ((n.log2 : Int) - 52)).toNat = 52 - n.log2 by omega, show ((n.log2 : Int) - 52 - 0).toNat = 0 by omega, cut_zero, Nat.shiftLeft_eq]
      have : 2 ^ 53 = 2 ^ (n.log2 + 1) * 2 ^ (52 - n.log2) := by rw [← Nat.pow_add]; congr 1; omega
      show _ ≤ 2 ^ 53
      rw [this]
      exact Nat.mul_le_mul_right _ (Nat.le_of_lt l2)
  obtain ⟨k, k1, k2, e⟩ := key
  rw [e, Nat.min_eq_left (by omega)]
  refine ⟨_, _, read_word (by omega) (by omega), ?_, ?_, ?_, ?_⟩ <;> omega
end Go.Proofs.Ytohdhndjbpfliaa
