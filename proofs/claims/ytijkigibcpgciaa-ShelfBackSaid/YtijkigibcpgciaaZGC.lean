import Derived.Test.YtijkigibcpgciaaZGA
/-
  Places that are set, or not, as a plain list of bools; words of 64 bits that stand for them. No statement about a Go function.
-/
namespace Go.Proofs.Ytijkigibcpgciaa.Pg

/-- Is place k set? -/
def bt (L : List Bool) (k : Nat) : Bool := L[k]?.getD false
/-- The least place that isn't set. -/
def lowOf (L : List Bool) : Int := match L.findIdx? (fun b => !b) with
  | some i => (i : Int)
  | none => -1
def hiTo (L : List Bool) : Nat → Int
  | 0 => -1
  | n + 1 => if bt L n = true then (n : Int) else hiTo L n
/-- The greatest place that is set. -/
def highOf (L : List Bool) : Int := hiTo L L.length
/-- Is there such a place? -/
def inB (L : List Bool) (at_ : Int) : Bool := decide (0 ≤ at_) && decide (at_ < (L.length : Int))
/-- What Has tells. -/
def hasOf (L : List Bool) (at_ : Int) : Bool := inB L at_ && bt L at_.toNat
/-- What Set answers. -/
def setE (L : List Bool) (at_ : Int) (is : Bool) : Int := if inB L at_ = false then 1 else if bt L at_.toNat = is then (if is = true then 10 else 9) else 0
/-- The places behind it. -/
def setL (L : List Bool) (at_ : Int) (is : Bool) : List Bool := if inB L at_ = false then L else L.set at_.toNat is

theorem bt_some {L : List Bool} {k : Nat} {b : Bool} (h : L[k]? = some b) : bt L k = b := by simp [bt, h]
theorem bt_out {L : List Bool} {k : Nat} (h : L.length ≤ k) : bt L k = false := by simp [bt, List.getElem?_eq_none h]
theorem bt_in {L : List Bool} {k : Nat} (h : bt L k = true) : k < L.length := by
  rcases Nat.lt_or_ge k L.length with g | g
  · exact g
  · rw [bt_out g] at h; cases h
theorem bt_get {L : List Bool} {k : Nat} (h : k < L.length) : L[k]? = some (bt L k) := by simp [bt, h]
theorem bt_set {L : List Bool} {k j : Nat} {b : Bool} (h : k < L.length) : bt (L.set k b) j = if j = k then b else bt L j := by
  unfold bt
  by_cases e : j = k
  · subst e; simp [h]
  · rw [if_neg e, List.getElem?_set_ne (fun q => e q.symm)]
theorem low_at {L : List Bool} {i : Nat} (hi : i < L.length) (h : bt L i = false) (hb : ∀ j, j < i → bt L j = true) : lowOf L = (i : Int) := by
  have e : L.findIdx? (fun b => !b) = some i := by
    rw [List.findIdx?_eq_some_iff_getElem]
    refine ⟨hi, ?_, fun j hj => ?_⟩
    · have := bt_get hi
      rw [h, List.getElem?_eq_getElem hi] at this
      injection this with this
      simp [this]
    · have hj' : j < L.length := by omega
      have := bt_get hj'
      rw [hb j hj, List.getElem?_eq_getElem hj'] at this
      injection this with this
      simp [this]
  simp [lowOf, e]
theorem low_none {L : List Bool} (hb : ∀ j, j < L.length → bt L j = true) : lowOf L = -1 := by
  have e : L.findIdx? (fun b => !b) = none := by
    rw [List.findIdx?_eq_none_iff]
    intro x hx
    obtain ⟨k, hk, rfl⟩ := List.getElem_of_mem hx
    have := bt_get hk
    rw [hb k hk, List.getElem?_eq_getElem hk] at this
    injection this with this
    simp [this]
  simp [lowOf, e]
theorem hiTo_at {L : List Bool} {i : Nat} (h : bt L i = true) (hb : ∀ j, i < j → bt L j = false) : ∀ n, i < n → hiTo L n = (i : Int)
  | 0, hn => by omega
  | n + 1, hn => by
    unfold hiTo
    by_cases e : n = i
    · subst e; rw [if_pos h]
    · rw [hb n (by omega), if_neg (by decide)]
      exact hiTo_at h hb n (by omega)
theorem high_at {L : List Bool} {i : Nat} (h : bt L i = true) (hb : ∀ j, i < j → bt L j = false) : highOf L = (i : Int) := hiTo_at h hb _ (bt_in h)
theorem hiTo_none {L : List Bool} (hb : ∀ j, bt L j = false) : ∀ n, hiTo L n = -1
  | 0 => rfl
  | n + 1 => by
    unfold hiTo
    rw [hb n, if_neg (by decide)]
    exact hiTo_none hb n
theorem high_none {L : List Bool} (hb : ∀ j, bt L j = false) : highOf L = -1 := hiTo_none hb _
/-- Either all are set, or there is a least one that isn't. -/
theorem low_cases (L : List Bool) : (lowOf L = -1 ∧ ∀ j, j < L.length → bt L j = true) ∨ ∃ i : Nat, lowOf L = (i : Int) ∧ i < L.length ∧ bt L i = false ∧ ∀ j, j < i → bt L j = true := by
  cases e : L.findIdx? (fun b => !b) with
  | none =>
    left
    refine ⟨by simp [lowOf, e], fun j hj => ?_⟩
    rw [List.findIdx?_eq_none_iff] at e
    have := e _ (List.getElem_mem hj)
    have g := bt_get hj
    rw [List.getElem?_eq_getElem hj] at g
    injection g with g
    rw [← g]
    simpa using this
  | some i =>
    right
    refine ⟨i, by simp [lowOf, e], ?_⟩
    rw [List.findIdx?_eq_some_iff_getElem] at e
    obtain ⟨hi, h1, h2⟩ := e
    have tell : ∀ j (hj : j < L.length), bt L j = L[j] := fun j hj => by
      have g := bt_get hj
      rw [List.getElem?_eq_getElem hj] at g
      injection g with g
      exact g.symm
    refine ⟨hi, by rw [tell i hi]; simpa using h1, fun j hj => by rw [tell j (by omega)]; simpa using h2 j hj⟩
theorem hiTo_cases (L : List Bool) : ∀ n, (hiTo L n = -1 ∧ ∀ j, j < n → bt L j = false) ∨ ∃ i : Nat, hiTo L n = (i : Int) ∧ i < n ∧ bt L i = true ∧ ∀ j, i < j → j < n → bt L j = false
  | 0 => Or.inl ⟨rfl, fun j hj => by omega⟩
  | n + 1 => by
    unfold hiTo
    cases b : bt L n with
    | true => exact Or.inr ⟨n, by simp, by omega, b, fun j h1 h2 => by omega⟩
    | false =>
      rw [if_neg (by decide)]
      rcases hiTo_cases L n with ⟨h1, h2⟩ | ⟨i, h1, h2, h3, h4⟩
      · exact Or.inl ⟨h1, fun j hj => by
          by_cases q : j = n
          · subst q; exact b
          · exact h2 j (by omega)⟩
      · exact Or.inr ⟨i, h1, by omega, h3, fun j k1 k2 => by
          by_cases q : j = n
          · subst q; exact b
          · exact h4 j k1 (by omega)⟩
theorem high_cases (L : List Bool) : (highOf L = -1 ∧ ∀ j, bt L j = false) ∨ ∃ i : Nat, highOf L = (i : Int) ∧ i < L.length ∧ bt L i = true ∧ ∀ j, i < j → bt L j = false := by
  rcases hiTo_cases L L.length with ⟨h1, h2⟩ | ⟨i, h1, h2, h3, h4⟩
  · exact Or.inl ⟨h1, fun j => by
      rcases Nat.lt_or_ge j L.length with g | g
      · exact h2 j g
      · exact bt_out g⟩
  · exact Or.inr ⟨i, h1, h2, h3, fun j k => by
      rcases Nat.lt_or_ge j L.length with g | g
      · exact h4 j k g
      · exact bt_out g⟩

/-! ### Words -/
/-- The word x stands for the 64 places from o on. -/
def Wd (x : Nat) (L : List Bool) (o : Nat) : Prop := x < 18446744073709551616 ∧ ∀ i, i < 64 → x.testBit i = bt L (o + i)
theorem pow_fit {i : Nat} (h : i < 64) : 2 ^ i < 18446744073709551616 := by
  have : 2 ^ i < 2 ^ 64 := Nat.pow_lt_pow_right (by omega) h
  exact this
theorem and_mask (x i : Nat) : x &&& 2 ^ i = if x.testBit i = true then 2 ^ i else 0 := by
  apply Nat.eq_of_testBit_eq
  intro j
  rw [Nat.testBit_and, Nat.testBit_two_pow]
  by_cases e : i = j
  · subst e
    cases q : x.testBit i <;> simp
  · rw [decide_eq_false e, Bool.and_false]
    cases q : x.testBit i
    · simp
    · rw [if_pos rfl, Nat.testBit_two_pow, decide_eq_false e]
theorem and_zero (x i : Nat) : ((x &&& 2 ^ i : Nat) = 0) ↔ x.testBit i = false := by
  rw [and_mask]
  have : 0 < 2 ^ i := Nat.two_pow_pos i
  cases x.testBit i
  · simp
  · simp
theorem Wd.flip {x o i : Nat} {L : List Bool} (h : Wd x L o) (hi : i < 64) (hl : o + i < L.length) (is : Bool) (hne : bt L (o + i) ≠ is) : Wd (x ^^^ 2 ^ i) (L.set (o + i) is) o := by
  refine ⟨?_, fun j hj => ?_⟩
  · have h1 : x < 2 ^ 64 := h.1
    have h2 : 2 ^ i < 2 ^ 64 := pow_fit hi
    exact Nat.xor_lt_two_pow h1 h2
  · rw [Nat.testBit_xor, Nat.testBit_two_pow, h.2 j hj, bt_set hl]
    by_cases e : j = i
    · subst e
      simp only [if_true, decide_true]
      revert hne
      cases bt L (o + j) <;> cases is <;> simp
    · rw [if_neg (by omega), decide_eq_false (fun q => e q.symm)]
      simp
theorem Wd.apart {x o k : Nat} {L : List Bool} (h : Wd x L o) (hk : k < L.length) (is : Bool) (ho : k < o ∨ o + 64 ≤ k) : Wd x (L.set k is) o :=
  ⟨h.1, fun j hj => by rw [h.2 j hj, bt_set hk, if_neg (by omega)]⟩

/-! ### Count -/
def pc : Nat → Nat → Nat
  | 0, _ => 0
  | n + 1, x => x % 2 + pc n (x / 2)
theorem pc_zero : ∀ n, pc n 0 = 0
  | 0 => rfl
  | n + 1 => by simp [pc, pc_zero n]
theorem and_pred_even {y : Nat} (h : y ≠ 0) : (2 * y) &&& (2 * y - 1) = 2 * (y &&& (y - 1)) := by
  apply Nat.eq_of_testBit_eq
  intro i
  have e : 2 * y - 1 = 2 * (y - 1) + 1 := by omega
  rw [Nat.testBit_and, e]
  cases i with
  | zero => simp
  | succ i =>
    rw [Nat.testBit_succ, Nat.testBit_succ, Nat.testBit_succ, show 2 * y / 2 = y by omega, show (2 * (y - 1) + 1) / 2 = y - 1 by omega, show 2 * (y &&& (y - 1)) / 2 = (y &&& (y - 1)) by omega, Nat.testBit_and]
theorem and_pred_odd (y : Nat) : (2 * y + 1) &&& (2 * y + 1 - 1) = 2 * y := by
  apply Nat.eq_of_testBit_eq
  intro i
  rw [Nat.testBit_and]
  cases i with
  | zero => simp
  | succ i => rw [Nat.testBit_succ, Nat.testBit_succ, show (2 * y + 1) / 2 = y by omega, show (2 * y + 1 - 1) / 2 = y by omega, Bool.and_self, Nat.testBit_succ, show 2 * y / 2 = y by omega]
theorem pc_pred : ∀ n x, x < 2 ^ n → x ≠ 0 → pc n (x &&& (x - 1)) + 1 = pc n x
  | 0, x, h, h0 => by simp at h; omega
  | n + 1, x, h, h0 => by
    have hp : 2 ^ (n + 1) = 2 * 2 ^ n := by rw [Nat.pow_succ, Nat.mul_comm]
    rcases Nat.mod_two_eq_zero_or_one x with q | q
    · obtain ⟨y, rfl⟩ : ∃ y, x = 2 * y := ⟨x / 2, by omega⟩
      rw [and_pred_even (by omega)]
      unfold pc
      rw [show 2 * (y &&& (y - 1)) % 2 = 0 by omega, show 2 * (y &&& (y - 1)) / 2 = (y &&& (y - 1)) by omega, show 2 * y % 2 = 0 by omega, show 2 * y / 2 = y by omega]
      have := pc_pred n y (by omega) (by omega)
      omega
    · obtain ⟨y, rfl⟩ : ∃ y, x = 2 * y + 1 := ⟨x / 2, by omega⟩
      rw [and_pred_odd]
      unfold pc
      rw [show 2 * y % 2 = 0 by omega, show 2 * y / 2 = y by omega, show (2 * y + 1) % 2 = 1 by omega, show (2 * y + 1) / 2 = y by omega]
      omega
theorem and_pred_lt {x : Nat} (h : x ≠ 0) : (x &&& (x - 1)) < x := by
  have : (x &&& (x - 1)) ≤ x - 1 := Nat.and_le_right
  omega
/-- How many of n places from o on are set. -/
def cntOf (L : List Bool) (o n : Nat) : Nat := ((L.drop o).take n).count true
theorem cnt_succ (L : List Bool) (o n : Nat) : cntOf L o (n + 1) = (if bt L o = true then 1 else 0) + cntOf L (o + 1) n := by
  unfold cntOf
  by_cases h : o < L.length
  · rw [List.drop_eq_getElem_cons h, List.take_succ_cons, List.count_cons]
    have g := bt_get h
    rw [List.getElem?_eq_getElem h] at g
    injection g with g
    rw [g]
    cases bt L o <;> simp <;> omega
  · rw [List.drop_eq_nil_of_le (by omega), List.drop_eq_nil_of_le (by omega), bt_out (by omega)]
    simp
theorem pc_cnt : ∀ n x (L : List Bool) o, (∀ i, i < n → x.testBit i = bt L (o + i)) → pc n x = cntOf L o n
  | 0, x, L, o, _ => by simp [pc, cntOf]
  | n + 1, x, L, o, h => by
    rw [cnt_succ]
    unfold pc
    have h0 := h 0 (by omega)
    rw [Nat.testBit_zero, Nat.add_zero] at h0
    rw [← h0, pc_cnt n (x / 2) L (o + 1) fun i hi => by
      have := h (i + 1) (by omega)
      rw [Nat.testBit_succ] at this
      rw [this, show o + (i + 1) = o + 1 + i by omega]]
    rcases Nat.mod_two_eq_zero_or_one x with q | q <;> simp [q]
theorem cnt_split (L : List Bool) (o m n : Nat) : cntOf L o (m + n) = cntOf L o m + cntOf L (o + m) n := by
  unfold cntOf
  rw [List.take_add, List.count_append, List.drop_drop]
theorem cnt_all {L : List Bool} {n : Nat} (h : L.length ≤ n) : cntOf L 0 n = L.count true := by
  unfold cntOf
  rw [List.drop_zero, List.take_of_length_le h]
theorem cnt_le (L : List Bool) (o n : Nat) : cntOf L o n ≤ n := by
  unfold cntOf
  exact Nat.le_trans List.count_le_length (by rw [List.length_take]; omega)
theorem Wd.pc {x o : Nat} {L : List Bool} (h : Wd x L o) : pc 64 x = cntOf L o 64 := pc_cnt 64 x L o h.2

/-! ### High -/
theorem top_bit {x i : Nat} (h : x < 2 ^ (i + 1)) : x / 2 ^ i = if x.testBit i = true then 1 else 0 := by
  have hp : 2 ^ (i + 1) = 2 ^ i * 2 := Nat.pow_succ _ _
  have h1 : x / 2 ^ i < 2 := by rw [Nat.div_lt_iff_lt_mul (Nat.two_pow_pos i), Nat.mul_comm]; omega
  rw [Nat.testBit_eq_decide_div_mod_eq]
  generalize x / 2 ^ i = q at h1 ⊢
  rcases (by omega : q = 0 ∨ q = 1) with rfl | rfl <;> simp
theorem bits_above {x i j : Nat} (h : x < 2 ^ i) (hj : i ≤ j) : x.testBit j = false :=
  Nat.testBit_lt_two_pow (Nat.lt_of_lt_of_le h (Nat.pow_le_pow_right (by omega) hj))

/-! ### Set, as lists -/
section
variable {L : List Bool}
theorem setL_off {at_ : Int} {is : Bool} (h : inB L at_ = false) : setL L at_ is = L ∧ setE L at_ is = 1 := by simp [setL, setE, h]
theorem setL_same {k : Nat} (hk : k < L.length) : setL L (k : Int) (bt L k) = L ∧ setE L (k : Int) (bt L k) = if bt L k = true then 10 else 9 := by
  have e : inB L (k : Int) = true := by simp [inB]; omega
  constructor
  · simp only [setL, e, Int.toNat_natCast]
    rw [if_neg (by decide)]
    apply List.ext_getElem?
    intro j
    by_cases q : k = j
    · subst q; rw [List.getElem?_set_self hk, bt_get hk]
    · rw [List.getElem?_set_ne q]
  · simp [setE, e]
theorem setL_flip {k : Nat} (hk : k < L.length) {is : Bool} (hne : bt L k ≠ is) : setL L (k : Int) is = L.set k is ∧ setE L (k : Int) is = 0 := by
  have e : inB L (k : Int) = true := by simp [inB]; omega
  simp [setL, setE, e, hne]
theorem length_setL (at_ : Int) (is : Bool) : (setL L at_ is).length = L.length := by
  unfold setL
  split
  · rfl
  · rw [List.length_set]
end
end Go.Proofs.Ytijkigibcpgciaa.Pg
/-
  The owners of a page's blocks as a plain list of numbers, -1 of a free one: what Take, Give, Own answer, and what is left. No statement about a Go function.
-/
namespace Go.Proofs.Ytijkigibcpgciaa.Pg

/-- The owner of block k; -1, if it is free, or there is none. -/
def ow (X : List Int) (k : Nat) : Int := X[k]?.getD (-1)
/-- Is there such a block? -/
def inP (X : List Int) (at_ : Int) : Bool := decide (0 ≤ at_) && decide (at_ < (X.length : Int))
def ownerOf (X : List Int) (at_ : Int) : Int := if inP X at_ = true then ow X at_.toNat else -1
/-- Which blocks aren't free. -/
def usedL (X : List Int) : List Bool := X.map fun x => x != -1
def holeOf (X : List Int) : Int := lowOf (usedL X)
def topOf (X : List Int) : Int := highOf (usedL X)
def usedN (X : List Int) : Nat := (usedL X).count true
/-- Take: the owners behind it, the block, what is wrong. -/
def takeX (X : List Int) (o : Int) : List Int := if o < 0 then X else if holeOf X = -1 then X else X.set (holeOf X).toNat o
def takeA (X : List Int) (o : Int) : Int := if o < 0 then 0 else if holeOf X = -1 then 0 else holeOf X
def takeE (X : List Int) (o : Int) : Int := if o < 0 then 1 else if holeOf X = -1 then 5 else 0
def giveX (X : List Int) (at_ : Int) : List Int := if inP X at_ = false then X else if ow X at_.toNat = -1 then X else X.set at_.toNat (-1)
def giveE (X : List Int) (at_ : Int) : Int := if inP X at_ = false then 1 else if ow X at_.toNat = -1 then 9 else 0
def ownX (X : List Int) (at_ o : Int) : List Int := if inP X at_ = false ∨ o < 0 then X else if ow X at_.toNat = -1 then X else X.set at_.toNat o
def ownE (X : List Int) (at_ o : Int) : Int := if inP X at_ = false ∨ o < 0 then 1 else if ow X at_.toNat = -1 then 9 else 0
/-- Owners are numbers from 0 on, or -1. -/
def Pn (X : List Int) : Prop := ∀ x ∈ X, -1 ≤ x ∧ x ≤ 9223372036854775807

section
variable {X : List Int}
theorem ow_get {k : Nat} (h : k < X.length) : X[k]? = some (ow X k) := by simp [ow, h]
theorem ow_out {k : Nat} (h : X.length ≤ k) : ow X k = -1 := by simp [ow, List.getElem?_eq_none h]
theorem ow_in {k : Nat} (h : ow X k ≠ -1) : k < X.length := by
  rcases Nat.lt_or_ge k X.length with g | g
  · exact g
  · exact absurd (ow_out g) h
theorem ow_set {k j : Nat} {o : Int} (h : k < X.length) : ow (X.set k o) j = if j = k then o else ow X j := by
  unfold ow
  by_cases e : j = k
  · subst e; simp [h]
  · rw [if_neg e, List.getElem?_set_ne (fun q => e q.symm)]
theorem Pn.ow (h : Pn X) (k : Nat) : -1 ≤ ow X k ∧ ow X k ≤ 9223372036854775807 := by
  rcases Nat.lt_or_ge k X.length with g | g
  · exact h _ (List.mem_of_getElem? (ow_get g))
  · rw [ow_out g]; omega
theorem Pn.set (h : Pn X) {k : Nat} {o : Int} (ho : -1 ≤ o ∧ o ≤ 9223372036854775807) : Pn (X.set k o) := by
  intro x hx
  rcases List.mem_or_eq_of_mem_set hx with q | q
  · exact h x q
  · subst q; exact ho
theorem inP_nat {k : Nat} (h : k < X.length) : inP X (k : Int) = true := by simp [inP]; omega
theorem inP_in {n : Int} (h : inP X n = true) : ∃ k : Nat, n = (k : Int) ∧ k < X.length := by
  simp [inP] at h
  exact ⟨n.toNat, by omega, by omega⟩
theorem ownerOf_nat {k : Nat} (h : k < X.length) : ownerOf X (k : Int) = ow X k := by simp [ownerOf, inP_nat h]
theorem ownerOf_off {n : Int} (h : inP X n = false) : ownerOf X n = -1 := by simp [ownerOf, h]
theorem ownerOf_in {n : Int} (h : ownerOf X n ≠ -1) : ∃ k : Nat, n = (k : Int) ∧ k < X.length ∧ ow X k ≠ -1 := by
  cases q : inP X n with
  | false => exact absurd (ownerOf_off q) h
  | true =>
    obtain ⟨k, rfl, hk⟩ := inP_in q
    exact ⟨k, rfl, hk, by rwa [ownerOf_nat hk] at h⟩
theorem Pn.owner (h : Pn X) (n : Int) : -1 ≤ ownerOf X n ∧ ownerOf X n ≤ 9223372036854775807 := by
  unfold ownerOf
  split
  · exact h.ow _
  · omega
theorem inP_set {k : Nat} {o n : Int} : inP (X.set k o) n = inP X n := by simp [inP]
theorem ownerOf_set {k : Nat} {o n : Int} (h : k < X.length) : ownerOf (X.set k o) n = if n = (k : Int) then o else ownerOf X n := by
  unfold ownerOf
  rw [inP_set]
  cases q : inP X n with
  | false =>
    have e : ¬ n = (k : Int) := fun e => by rw [e, inP_nat h] at q; cases q
    rw [if_neg e]
    simp
  | true =>
    obtain ⟨j, rfl, hj⟩ := inP_in q
    rw [if_pos rfl, if_pos rfl, Int.toNat_natCast, ow_set h]
    by_cases e : j = k
    · rw [if_pos e, if_pos (by rw [e])]
    · rw [if_neg e, if_neg (by omega)]

/-! ### Which blocks aren't free, as places that are set -/
theorem used_len : (usedL X).length = X.length := by simp [usedL]
theorem used_bt (k : Nat) : bt (usedL X) k = (ow X k != -1) := by
  unfold bt usedL ow
  rw [List.getElem?_map]
  cases X[k]? with
  | none => simp
  | some x => simp
theorem used_inB (n : Int) : inB (usedL X) n = inP X n := by simp [inB, inP, used_len]
theorem used_set (k : Nat) (o : Int) : usedL (X.set k o) = (usedL X).set k (o != -1) := by simp [usedL, List.map_set]
theorem used_new (n : Nat) : usedL (List.replicate n (-1)) = List.replicate n false := by simp [usedL]
theorem hole_cases (X : List Int) : (holeOf X = -1 ∧ ∀ j, j < X.length → ow X j ≠ -1) ∨ ∃ i : Nat, holeOf X = (i : Int) ∧ i < X.length ∧ ow X i = -1 ∧ ∀ j, j < i → ow X j ≠ -1 := by
  rcases low_cases (usedL X) with ⟨h1, h2⟩ | ⟨i, h1, h2, h3, h4⟩
  · exact Or.inl ⟨h1, fun j hj => by have := h2 j (by rw [used_len]; exact hj); rw [used_bt] at this; simpa using this⟩
  · refine Or.inr ⟨i, h1, by rwa [used_len] at h2, ?_, fun j hj => ?_⟩
    · rw [used_bt] at h3; simpa using h3
    · have := h4 j hj; rw [used_bt] at this; simpa using this
theorem hole_at {i : Nat} (hi : i < X.length) (h : ow X i = -1) (hb : ∀ j, j < i → ow X j ≠ -1) : holeOf X = (i : Int) :=
  low_at (by rw [used_len]; exact hi) (by rw [used_bt, h]; rfl) (fun j hj => by rw [used_bt]; simpa using hb j hj)
theorem hole_none (hb : ∀ j, j < X.length → ow X j ≠ -1) : holeOf X = -1 :=
  low_none (fun j hj => by rw [used_bt]; simpa using hb j (by rwa [used_len] at hj))
theorem top_at {i : Nat} (h : ow X i ≠ -1) (hb : ∀ j, i < j → ow X j = -1) : topOf X = (i : Int) :=
  high_at (by rw [used_bt]; simpa using h) (fun j hj => by rw [used_bt, hb j hj]; rfl)
theorem top_none (hb : ∀ j, ow X j = -1) : topOf X = -1 := high_none (fun j => by rw [used_bt, hb j]; rfl)
theorem used_le (X : List Int) : usedN X ≤ X.length := by
  unfold usedN
  have := List.count_le_length (a := true) (l := usedL X)
  rwa [used_len] at this
/-- None is free just if as many aren't free as there are. -/
theorem full_iff (X : List Int) : (usedN X = X.length) ↔ holeOf X = -1 := by
  unfold usedN
  rw [← used_len (X := X), List.count_eq_length]
  constructor
  · intro h
    exact low_none fun j hj => (h _ (List.mem_of_getElem? (bt_get hj))).symm
  · intro h x hx
    rcases low_cases (usedL X) with ⟨_, h2⟩ | ⟨i, h1, _⟩
    · obtain ⟨k, hk, rfl⟩ := List.getElem_of_mem hx
      have g := bt_get hk
      rw [List.getElem?_eq_getElem hk] at g
      injection g with g
      rw [g, h2 k hk]
    · unfold holeOf at h
      omega
theorem full_beq (X : List Int) : ((usedN X : Int) == (X.length : Int)) = (holeOf X == -1) := by
  have := full_iff X
  by_cases h : holeOf X = -1
  · have g := this.2 h
    rw [h]
    simp [g]
  · have g : usedN X ≠ X.length := fun q => h (this.1 q)
    have e1 : (holeOf X == -1) = false := by simpa using h
    rw [e1]
    simp
    omega

/-! ### What Take, Give, Own leave -/
theorem take_len (o : Int) : (takeX X o).length = X.length := by unfold takeX; split; rfl; split; rfl; rw [List.length_set]
theorem give_len (n : Int) : (giveX X n).length = X.length := by unfold giveX; split; rfl; split; rfl; rw [List.length_set]
theorem own_len (n o : Int) : (ownX X n o).length = X.length := by unfold ownX; split; rfl; split; rfl; rw [List.length_set]
theorem take_neg {o : Int} (h : o < 0) : takeX X o = X ∧ takeA X o = 0 ∧ takeE X o = 1 := by simp [takeX, takeA, takeE, h]
theorem take_full {o : Int} (h : 0 ≤ o) (hf : holeOf X = -1) : takeX X o = X ∧ takeA X o = 0 ∧ takeE X o = 5 := by
  have : ¬ o < 0 := by omega
  simp [takeX, takeA, takeE, this, hf]
theorem take_at {o : Int} (h : 0 ≤ o) {i : Nat} (hf : holeOf X = (i : Int)) : takeX X o = X.set i o ∧ takeA X o = (i : Int) ∧ takeE X o = 0 := by
  have h1 : ¬ o < 0 := by omega
  have h2 : ¬ (i : Int) = -1 := by omega
  simp [takeX, takeA, takeE, h1, hf, h2]
theorem give_off {n : Int} (h : inP X n = false) : giveX X n = X ∧ giveE X n = 1 := by simp [giveX, giveE, h]
theorem give_free {k : Nat} (hk : k < X.length) (h : ow X k = -1) : giveX X (k : Int) = X ∧ giveE X (k : Int) = 9 := by simp [giveX, giveE, inP_nat hk, h]
theorem give_at {k : Nat} (hk : k < X.length) (h : ow X k ≠ -1) : giveX X (k : Int) = X.set k (-1) ∧ giveE X (k : Int) = 0 := by simp [giveX, giveE, inP_nat hk, h]
theorem own_off {n o : Int} (h : inP X n = false ∨ o < 0) : ownX X n o = X ∧ ownE X n o = 1 := by simp [ownX, ownE, h]
theorem own_free {k : Nat} {o : Int} (hk : k < X.length) (ho : 0 ≤ o) (h : ow X k = -1) : ownX X (k : Int) o = X ∧ ownE X (k : Int) o = 9 := by
  have h1 : ¬ o < 0 := by omega
  simp [ownX, ownE, inP_nat hk, h, h1]
theorem own_at {k : Nat} {o : Int} (hk : k < X.length) (ho : 0 ≤ o) (h : ow X k ≠ -1) : ownX X (k : Int) o = X.set k o ∧ ownE X (k : Int) o = 0 := by
  have h1 : ¬ o < 0 := by omega
  simp [ownX, ownE, inP_nat hk, h, h1]
theorem Pn.take (h : Pn X) {o : Int} (ho : o ≤ 9223372036854775807) : Pn (takeX X o) := by
  unfold takeX
  split
  · exact h
  · split
    · exact h
    · exact h.set (by omega)
theorem Pn.give (h : Pn X) (n : Int) : Pn (giveX X n) := by
  unfold giveX
  split
  · exact h
  · split
    · exact h
    · exact h.set (by omega)
theorem Pn.own (h : Pn X) (n : Int) {o : Int} (ho : o ≤ 9223372036854775807) : Pn (ownX X n o) := by
  unfold ownX
  split
  · exact h
  · rename_i q
    split
    · exact h
    · exact h.set (by omega)
end
end Go.Proofs.Ytijkigibcpgciaa.Pg
