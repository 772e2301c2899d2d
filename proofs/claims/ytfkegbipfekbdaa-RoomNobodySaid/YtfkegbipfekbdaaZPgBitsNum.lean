import Derived.Test.YtfkegbipfekbdaaRows
import Derived.WalkKit
import Derived.ProofKit
import Derived.OpenShut
import Derived.Below
import Derived.Deep.Draws
/-
  Words for what a call leaves of the memory, and for how it ends. No statement about a Go function.
-/
namespace Go.Proofs.Ytfkegbipfekbdaa
open Go.ChangeShapes Go.WideShapes Go.ChangeAt Go.RowKit

/-! ### What a call leaves of the memory -/
structure Fresh (w w' : World) : Prop where
  below : Below w.heap.size w w'
  grown : Grown w w'

theorem Fresh.refl (w : World) : Fresh w w := ⟨Below.refl _ _, Grown.refl _⟩
theorem Fresh.trans {a b c : World} (h : Fresh a b) (k : Fresh b c) : Fresh a c :=
  ⟨h.below.trans (k.below.mono h.below.size), ⟨World.keptBut_trans h.grown.1 (World.keptBut_mono (fun _ f => f.elim) k.grown.1), fun x => (k.grown.2.1 x).trans (h.grown.2.1 x), Nat.le_trans h.grown.2.2 k.grown.2.2⟩⟩
theorem Fresh.alloc {a b : World} (h : Fresh a b) (c : Array Value) (t : TypeId) : Fresh a (b.alloc (.cells c t)) :=
  ⟨h.below.alloc h.below.size _, h.grown.alloc c t⟩

/-! ### Words for how a call ends -/
/-- It returns the int P, and lays at most new blocks. -/
def F2 (P : Int) (w : World) (e : Ending) (w' : World) : Prop := e = .returned (.int .i64 P) ∧ Fresh w w'
/-- It returns the int P, and the world is as it was. -/
def R1 (P : Int) (w : World) (e : Ending) (w' : World) : Prop := e = .returned (.int .i64 P) ∧ w = w'
/-- It returns the bool P, and the world is as it was. -/
def B1 (P : Bool) (w : World) (e : Ending) (w' : World) : Prop := e = .returned (.bool P) ∧ w = w'
/-- It returns the int P, and draws alone. -/
def RQ (P : Int) (w : World) (e : Ending) (w' : World) : Prop := e = .returned (.int .i64 P) ∧ ∃ n, w' = w.drewN n
/-- It returns the bool P, and draws alone. -/
def BQ (P : Bool) (w : World) (e : Ending) (w' : World) : Prop := e = .returned (.bool P) ∧ ∃ n, w' = w.drewN n
/-- It returns the int P, and leaves all memory that was there as it was. -/
def IB (P : Int) (w : World) (e : Ending) (w' : World) : Prop := e = .returned (.int .i64 P) ∧ Below w.heap.size w w'
/-- It returns the bool P, and leaves all memory that was there as it was. -/
def BB (P : Bool) (w : World) (e : Ending) (w' : World) : Prop := e = .returned (.bool P) ∧ Below w.heap.size w w'
theorem belowN {B : Nat} {w w' : World} (h : Below B w w') (k : Nat) : Below B w (w'.drewN k) := ⟨h.os, h.tape, h.output, h.size, h.block⟩
theorem belowD {B : Nat} {w w' : World} (h : Below B w w') : Below B w w'.drew := ⟨h.os, h.tape, h.output, h.size, h.block⟩
theorem below1 (w : World) (o : Obj) : Below w.heap.size w (w.alloc o) := (Below.refl _ _).alloc (Nat.le_refl _) o
theorem below2 (w : World) (o1 o2 : Obj) : Below w.heap.size w ((w.alloc o1).alloc o2) := (below1 w o1).alloc (by simp) o2
/-- A callee that leaves the world as it was, inside a region that draws. -/
theorem quiet1 {P : Program} {f : FuncId} {args : Array Value} {w : World} {n : Nat} {v : Value}
    (h : Calls P f args (w.drewN n) fun e w' => e = .returned v ∧ w.drewN n = w') : Calls P f args (w.drewN n) fun e w'' => e = .returned v ∧ ∃ m, w'' = w.drewN m :=
  h.mono fun _ _ ⟨he, hm⟩ => ⟨he, n, hm.symm⟩
/-- One call behind another. -/
theorem belowT {w w1 w2 : World} (h : Below w.heap.size w w1) (k : Below w1.heap.size w1 w2) : Below w.heap.size w w2 := h.trans (k.mono h.size)
end Go.Proofs.Ytfkegbipfekbdaa
/-
  Places that are set, or not, as a plain list of bools; words of 64 bits that stand for them. No statement about a Go function.
-/
namespace Go.Proofs.Ytfkegbipfekbdaa.Pg

/-- Is place k set? -/
def bt (L : List Bool) (k : Nat) : Bool := L[k]?.getD false
/-- The least place that isn't set. -/
def lowOf (L : List Bool) : Int := match L.findIdx? (fun b => !b) with
  | some i => (i : Int)
  | none => -1
def hiTo (L : List Bool) : Nat → Int
  | 0 => -1
  | n + 1 => if bt L n = true then (n : Int) else hiTo L n
/-- The greatest place that is set. -/
def highOf (L : List Bool) : Int := hiTo L L.length
/-- Is there such a place? -/
def inB (L : List Bool) (at_ : Int) : Bool := decide (0 ≤ at_) && decide (at_ < (L.length : Int))
/-- What Has tells. -/
def hasOf (L : List Bool) (at_ : Int) : Bool := inB L at_ && bt L at_.toNat
/-- What Set answers. -/
def setE (L : List Bool) (at_ : Int) (is : Bool) : Int := if inB L at_ = false then 1 else if bt L at_.toNat = is then (if is = true then 10 else 9) else 0
/-- The places behind it. -/
def setL (L : List Bool) (at_ : Int) (is : Bool) : List Bool := if inB L at_ = false then L else L.set at_.toNat is

theorem bt_some {L : List Bool} {k : Nat} {b : Bool} (h : L[k]? = some b) : bt L k = b := by simp [bt, h]
theorem bt_out {L : List Bool} {k : Nat} (h : L.length ≤ k) : bt L k = false := by simp [bt, List.getElem?_eq_none h]
theorem bt_in {L : List Bool} {k : Nat} (h : bt L k = true) : k < L.length := by
  rcases Nat.lt_or_ge k L.length with g | g
  · exact g
  · rw [bt_out g] at h; cases h
theorem bt_get {L : List Bool} {k : Nat} (h : k < L.length) : L[k]? = some (bt L k) := by simp [bt, h]
theorem bt_set {L : List Bool} {k j : Nat} {b : Bool} (h : k < L.length) : bt (L.set k b) j = if j = k then b else bt L j := by
  unfold bt
  by_cases e : j = k
  · subst e; simp [h]
  · rw [if_neg e, List.getElem?_set_ne (fun q => e q.symm)]
theorem low_at {L : List Bool} {i : Nat} (hi : i < L.length) (h : bt L i = false) (hb : ∀ j, j < i → bt L j = true) : lowOf L = (i : Int) := by
  have e : L.findIdx? (fun b => !b) = some i := by
    rw [List.findIdx?_eq_some_iff_getElem]
    refine ⟨hi, ?_, fun j hj => ?_⟩
    · have := bt_get hi
      rw [h, List.getElem?_eq_getElem hi] at this
      injection this with this
      simp [this]
    · have hj' : j < L.length := by omega
      have := bt_get hj'
      rw [hb j hj, List.getElem?_eq_getElem hj'] at this
      injection this with this
      simp [this]
  simp [lowOf, e]
theorem low_none {L : List Bool} (hb : ∀ j, j < L.length → bt L j = true) : lowOf L = -1 := by
  have e : L.findIdx? (fun b => !b) = none := by
    rw [List.findIdx?_eq_none_iff]
    intro x hx
    obtain ⟨k, hk, rfl⟩ := List.getElem_of_mem hx
    have := bt_get hk
    rw [hb k hk, List.getElem?_eq_getElem hk] at this
    injection this with this
    simp [this]
  simp [lowOf, e]
theorem hiTo_at {L : List Bool} {i : Nat} (h : bt L i = true) (hb : ∀ j, i < j → bt L j = false) : ∀ n, i < n → hiTo L n = (i : Int)
  | 0, hn => by omega
  | n + 1, hn => by
    unfold hiTo
    by_cases e : n = i
    · subst e; rw [if_pos h]
    · rw [hb n (by omega), if_neg (by decide)]
      exact hiTo_at h hb n (by omega)
theorem high_at {L : List Bool} {i : Nat} (h : bt L i = true) (hb : ∀ j, i < j → bt L j = false) : highOf L = (i : Int) := hiTo_at h hb _ (bt_in h)
theorem hiTo_none {L : List Bool} (hb : ∀ j, bt L j = false) : ∀ n, hiTo L n = -1
  | 0 => rfl
  | n + 1 => by
    unfold hiTo
    rw [hb n, if_neg (by decide)]
    exact hiTo_none hb n
theorem high_none {L : List Bool} (hb : ∀ j, bt L j = false) : highOf L = -1 := hiTo_none hb _
/-- Either all are set, or there is a least one that isn't. -/
theorem low_cases (L : List Bool) : (lowOf L = -1 ∧ ∀ j, j < L.length → bt L j = true) ∨ ∃ i : Nat, lowOf L = (i : Int) ∧ i < L.length ∧ bt L i = false ∧ ∀ j, j < i → bt L j = true := by
  cases e : L.findIdx? (fun b => !b) with
  | none =>
    left
    refine ⟨by simp [lowOf, e], fun j hj => ?_⟩
    rw [List.findIdx?_eq_none_iff] at e
    have := e _ (List.getElem_mem hj)
    have g := bt_get hj
    rw [List.getElem?_eq_getElem hj] at g
    injection g with g
    rw [← g]
    simpa using this
  | some i =>
    right
    refine ⟨i, by simp [lowOf, e], ?_⟩
    rw [List.findIdx?_eq_some_iff_getElem] at e
    obtain ⟨hi, h1, h2⟩ := e
    have tell : ∀ j (hj : j < L.length), bt L j = L[j] := fun j hj => by
      have g := bt_get hj
      rw [List.getElem?_eq_getElem hj] at g
      injection g with g
      exact g.symm
    refine ⟨hi, by rw [tell i hi]; simpa using h1, fun j hj => by rw [tell j (by omega)]; simpa using h2 j hj⟩
theorem hiTo_cases (L : List Bool) : ∀ n, (hiTo L n = -1 ∧ ∀ j, j < n → bt L j = false) ∨ ∃ i : Nat, hiTo L n = (i : Int) ∧ i < n ∧ bt L i = true ∧ ∀ j, i < j → j < n → bt L j = false
  | 0 => Or.inl ⟨rfl, fun j hj => by omega⟩
  | n + 1 => by
    unfold hiTo
    cases b : bt L n with
    | true => exact Or.inr ⟨n, by simp, by omega, b, fun j h1 h2 => by omega⟩
    | false =>
      rw [if_neg (by decide)]
      rcases hiTo_cases L n with ⟨h1, h2⟩ | ⟨i, h1, h2, h3, h4⟩
      · exact Or.inl ⟨h1, fun j hj => by
          by_cases q : j = n
          · subst q; exact b
          · exact h2 j (by omega)⟩
      · exact Or.inr ⟨i, h1, by omega, h3, fun j k1 k2 => by
          by_cases q : j = n
          · subst q; exact b
          · exact h4 j k1 (by omega)⟩
theorem high_cases (L : List Bool) : (highOf L = -1 ∧ ∀ j, bt L j = false) ∨ ∃ i : Nat, highOf L = (i : Int) ∧ i < L.length ∧ bt L i = true ∧ ∀ j, i < j → bt L j = false := by
  rcases hiTo_cases L L.length with ⟨h1, h2⟩ | ⟨i, h1, h2, h3, h4⟩
  · exact Or.inl ⟨h1, fun j => by
      rcases Nat.lt_or_ge j L.length with g | g
      · exact h2 j g
      · exact bt_out g⟩
  · exact Or.inr ⟨i, h1, h2, h3, fun j k => by
      rcases Nat.lt_or_ge j L.length with g | g
      · exact h4 j k g
      · exact bt_out g⟩

/-! ### Words -/
/-- The word x stands for the 64 places from o on. -/
def Wd (x : Nat) (L : List Bool) (o : Nat) : Prop := x < 18446744073709551616 ∧ ∀ i, i < 64 → x.testBit i = bt L (o + i)
theorem pow_fit {i : Nat} (h : i < 64) : 2 ^ i < 18446744073709551616 := by
  have : 2 ^ i < 2 ^ 64 := Nat.pow_lt_pow_right (by omega) h
  exact this
theorem and_mask (x i : Nat) : x &&& 2 ^ i = if x.testBit i = true then 2 ^ i else 0 := by
  apply Nat.eq_of_testBit_eq
  intro j
  rw [Nat.testBit_and, Nat.testBit_two_pow]
  by_cases e : i = j
  · subst e
    cases q : x.testBit i <;> simp
  · rw [decide_eq_false e, Bool.and_false]
    cases q : x.testBit i
    · simp
    · rw [if_pos rfl, Nat.testBit_two_pow, decide_eq_false e]
theorem and_zero (x i : Nat) : ((x &&& 2 ^ i : Nat) = 0) ↔ x.testBit i = false := by
  rw [and_mask]
  have : 0 < 2 ^ i := Nat.two_pow_pos i
  cases x.testBit i
  · simp
  · simp
theorem Wd.flip {x o i : Nat} {L : List Bool} (h : Wd x L o) (hi : i < 64) (hl : o + i < L.length) (is : Bool) (hne : bt L (o + i) ≠ is) : Wd (x ^^^ 2 ^ i) (L.set (o + i) is) o := by
  refine ⟨?_, fun j hj => ?_⟩
  · have h1 : x < 2 ^ 64 := h.1
    have h2 : 2 ^ i < 2 ^ 64 := pow_fit hi
    exact Nat.xor_lt_two_pow h1 h2
  · rw [Nat.testBit_xor, Nat.testBit_two_pow, h.2 j hj, bt_set hl]
    by_cases e : j = i
    · subst e
      simp only [if_true, decide_true]
      revert hne
      cases bt L (o + j) <;> cases is <;> simp
    · rw [if_neg (by omega), decide_eq_false (fun q => e q.symm)]
      simp
theorem Wd.apart {x o k : Nat} {L : List Bool} (h : Wd x L o) (hk : k < L.length) (is : Bool) (ho : k < o ∨ o + 64 ≤ k) : Wd x (L.set k is) o :=
  ⟨h.1, fun j hj => by rw [h.2 j hj, bt_set hk, if_neg (by omega)]⟩

/-! ### Count -/
def pc : Nat → Nat → Nat
  | 0, _ => 0
  | n + 1, x => x % 2 + pc n (x / 2)
theorem pc_zero : ∀ n, pc n 0 = 0
  | 0 => rfl
  | n + 1 => by simp [pc, pc_zero n]
theorem and_pred_even {y : Nat} (h : y ≠ 0) : (2 * y) &&& (2 * y - 1) = 2 * (y &&& (y - 1)) := by
  apply Nat.eq_of_testBit_eq
  intro i
  have e : 2 * y - 1 = 2 * (y - 1) + 1 := by omega
  rw [Nat.testBit_and, e]
  cases i with
  | zero => simp
  | succ i =>
    rw [Nat.testBit_succ, Nat.testBit_succ, Nat.testBit_succ, show 2 * y / 2 = y by omega, show (2 * (y - 1) + 1) / 2 = y - 1 by omega, show 2 * (y &&& (y - 1)) / 2 = (y &&& (y - 1)) by omega, Nat.testBit_and]
theorem and_pred_odd (y : Nat) : (2 * y + 1) &&& (2 * y + 1 - 1) = 2 * y := by
  apply Nat.eq_of_testBit_eq
  intro i
  rw [Nat.testBit_and]
  cases i with
  | zero => simp
  | succ i => rw [Nat.testBit_succ, Nat.testBit_succ, show (2 * y + 1) / 2 = y by omega, show (2 * y + 1 - 1) / 2 = y by omega, Bool.and_self, Nat.testBit_succ, show 2 * y / 2 = y by omega]
theorem pc_pred : ∀ n x, x < 2 ^ n → x ≠ 0 → pc n (x &&& (x - 1)) + 1 = pc n x
  | 0, x, h, h0 => by simp at h; omega
  | n + 1, x, h, h0 => by
    have hp : 2 ^ (n + 1) = 2 * 2 ^ n := by rw [Nat.pow_succ, Nat.mul_comm]
    rcases Nat.mod_two_eq_zero_or_one x with q | q
    · obtain ⟨y, rfl⟩ : ∃ y, x = 2 * y := ⟨x / 2, by omega⟩
      rw [and_pred_even (by omega)]
      unfold pc
      rw [show 2 * (y &&& (y - 1)) % 2 = 0 by omega, show 2 * (y &&& (y - 1)) / 2 = (y &&& (y - 1)) by omega, show 2 * y % 2 = 0 by omega, show 2 * y / 2 = y by omega]
      have := pc_pred n y (by omega) (by omega)
      omega
    · obtain ⟨y, rfl⟩ : ∃ y, x = 2 * y + 1 := ⟨x / 2, by omega⟩
      rw [and_pred_odd]
      unfold pc
      rw [show 2 * y % 2 = 0 by omega, show 2 * y / 2 = y by omega, show (2 * y + 1) % 2 = 1 by omega, show (2 * y + 1) / 2 = y by omega]
      omega
theorem and_pred_lt {x : Nat} (h : x ≠ 0) : (x &&& (x - 1)) < x := by
  have : (x &&& (x - 1)) ≤ x - 1 := Nat.and_le_right
  omega
/-- How many of n places from o on are set. -/
def cntOf (L : List Bool) (o n : Nat) : Nat := ((L.drop o).take n).count true
theorem cnt_succ (L : List Bool) (o n : Nat) : cntOf L o (n + 1) = (if bt L o = true then 1 else 0) + cntOf L (o + 1) n := by
  unfold cntOf
  by_cases h : o < L.length
  · rw [List.drop_eq_getElem_cons h, List.take_succ_cons, List.count_cons]
    have g := bt_get h
    rw [List.getElem?_eq_getElem h] at g
    injection g with g
    rw [g]
    cases bt L o <;> simp <;> omega
  · rw [List.drop_eq_nil_of_le (by omega), List.drop_eq_nil_of_le (by omega), bt_out (by omega)]
    simp
theorem pc_cnt : ∀ n x (L : List Bool) o, (∀ i, i < n → x.testBit i = bt L (o + i)) → pc n x = cntOf L o n
  | 0, x, L, o, _ => by simp [pc, cntOf]
  | n + 1, x, L, o, h => by
    rw [cnt_succ]
    unfold pc
    have h0 := h 0 (by omega)
    rw [Nat.testBit_zero, Nat.add_zero] at h0
    rw [← h0, pc_cnt n (x / 2) L (o + 1) fun i hi => by
      have := h (i + 1) (by omega)
      rw [Nat.testBit_succ] at this
      rw [this, show o + (i + 1) = o + 1 + i by omega]]
    rcases Nat.mod_two_eq_zero_or_one x with q | q <;> simp [q]
theorem cnt_split (L : List Bool) (o m n : Nat) : cntOf L o (m + n) = cntOf L o m + cntOf L (o + m) n := by
  unfold cntOf
  rw [List.take_add, List.count_append, List.drop_drop]
theorem cnt_all {L : List Bool} {n : Nat} (h : L.length ≤ n) : cntOf L 0 n = L.count true := by
  unfold cntOf
  rw [List.drop_zero, List.take_of_length_le h]
theorem cnt_le (L : List Bool) (o n : Nat) : cntOf L o n ≤ n := by
  unfold cntOf
  exact Nat.le_trans List.count_le_length (by rw [List.length_take]; omega)
theorem Wd.pc {x o : Nat} {L : List Bool} (h : Wd x L o) : pc 64 x = cntOf L o 64 := pc_cnt 64 x L o h.2

/-! ### High -/
theorem top_bit {x i : Nat} (h : x < 2 ^ (i + 1)) : x / 2 ^ i = if x.testBit i = true then 1 else 0 := by
  have hp : 2 ^ (i + 1) = 2 ^ i * 2 := Nat.pow_succ _ _
  have h1 : x / 2 ^ i < 2 := by rw [Nat.div_lt_iff_lt_mul (Nat.two_pow_pos i), Nat.mul_comm]; omega
  rw [Nat.testBit_eq_decide_div_mod_eq]
  generalize x / 2 ^ i = q at h1 ⊢
  rcases (by omega : q = 0 ∨ q = 1) with rfl | rfl <;> simp
theorem bits_above {x i j : Nat} (h : x < 2 ^ i) (hj : i ≤ j) : x.testBit j = false :=
  Nat.testBit_lt_two_pow (Nat.lt_of_lt_of_le h (Nat.pow_le_pow_right (by omega) hj))

/-! ### Set, as lists -/
section
variable {L : List Bool}
theorem setL_off {at_ : Int} {is : Bool} (h : inB L at_ = false) : setL L at_ is = L ∧ setE L at_ is = 1 := by simp [setL, setE, h]
theorem setL_same {k : Nat} (hk : k < L.length) : setL L (k : Int) (bt L k) = L ∧ setE L (k : Int) (bt L k) = if bt L k = true then 10 else 9 := by
  have e : inB L (k : Int) = true := by simp [inB]; omega
  constructor
  · simp only [setL, e, Int.toNat_natCast]
    rw [if_neg (by decide)]
    apply List.ext_getElem?
    intro j
    by_cases q : k = j
    · subst q; rw [List.getElem?_set_self hk, bt_get hk]
    · rw [List.getElem?_set_ne q]
  · simp [setE, e]
theorem setL_flip {k : Nat} (hk : k < L.length) {is : Bool} (hne : bt L k ≠ is) : setL L (k : Int) is = L.set k is ∧ setE L (k : Int) is = 0 := by
  have e : inB L (k : Int) = true := by simp [inB]; omega
  simp [setL, setE, e, hne]
theorem length_setL (at_ : Int) (is : Bool) : (setL L at_ is).length = L.length := by
  unfold setL
  split
  · rfl
  · rw [List.length_set]
end
end Go.Proofs.Ytfkegbipfekbdaa.Pg
