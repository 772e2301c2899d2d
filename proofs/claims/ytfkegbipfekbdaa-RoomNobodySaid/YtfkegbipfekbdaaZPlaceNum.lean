import Derived.Test.YtfkegbipfekbdaaZChainNum
import Derived.Test.YtfkegbipfekbdaaRows
/-
  The plain numbers of package need: how many things are a class's, how many pages things need, how many they may have; and what follows of a thing more, of things in another turn, of as many as a page has blocks. No statement about a Go function.
-/
namespace Go.Proofs.Ytfkegbipfekbdaa
open Go.RowKit

/-! ### Parts -/
theorem many_least {x p k : Int} (hx : 0 ≤ x) (hp : 1 ≤ p) (hk : 0 ≤ k) : many x p ≤ k ↔ x ≤ k * p := by
  by_cases h : x < 1
  · obtain rfl : x = 0 := by omega
    rw [many_off (.inl h)]
    have : 0 ≤ k * p := Int.mul_nonneg hk (by omega)
    omega
  · obtain ⟨f1, f2, f3, f4⟩ := many_facts (n := x) (b := p) (by omega) hp
    constructor
    · intro g
      have := Int.mul_le_mul_of_nonneg_right g (show 0 ≤ p by omega)
      omega
    · intro g
      by_cases c : many x p ≤ k
      · exact c
      · have : (k + 1) * p ≤ many x p * p := Int.mul_le_mul_of_nonneg_right (by omega) (by omega)
        rw [Int.add_mul, Int.one_mul] at this
        omega
theorem many_bounds {x p : Int} (hx : 0 ≤ x) (hp : 1 ≤ p) : 0 ≤ many x p ∧ many x p ≤ x := by
  by_cases h : x < 1
  · rw [many_off (.inl h)]; omega
  · have := many_facts (n := x) (b := p) (by omega) hp
    omega
/-- Parts of no whole, or of any: at most as many as there are things. -/
theorem many_any_bounds {x p : Int} (hx : 0 ≤ x) : 0 ≤ many x p ∧ many x p ≤ x := by
  by_cases h : p < 1
  · rw [many_off (.inr h)]; omega
  · exact many_bounds hx (by omega)
theorem many_more {x y p : Int} (hx : 0 ≤ x) (hy : 0 ≤ y) (hp : 1 ≤ p) : many x p ≤ many (x + y) p ∧ many (x + y) p ≤ many x p + many y p := by
  have nx := (many_bounds hx hp).1
  have ny := (many_bounds hy hp).1
  have ns := (many_bounds (x := x + y) (by omega) hp).1
  have ix := (many_least hx hp nx).1 (Int.le_refl _)
  have iy := (many_least hy hp ny).1 (Int.le_refl _)
  have is_ := (many_least (x := x + y) (by omega) hp ns).1 (Int.le_refl _)
  constructor
  · exact (many_least hx hp ns).2 (by omega)
  · refine (many_least (by omega) hp (by omega)).2 ?_
    rw [Int.add_mul]
    omega
theorem many_self {p : Int} (hp : 1 ≤ p) : many p p = 1 := many_window hp hp (by omega) (by omega)
theorem many_next {p : Int} (hp : 1 ≤ p) : many (p + 1) p = 2 := many_window (by omega) hp (by omega) (by omega)

/-! ### Sums -/
/-- f 0 to f (n - 1), together. -/
def sumTo (f : Nat → Int) : Nat → Int
  | 0 => 0
  | n + 1 => sumTo f n + f n
section
variable {f g h : Nat → Int} {n : Nat}
theorem sumTo_le (hh : ∀ k, k < n → f k ≤ g k) : sumTo f n ≤ sumTo g n := by
  induction n with
  | zero => exact Int.le_refl _
  | succ n ih =>
    have := ih fun k hk => hh k (by omega)
    have := hh n (by omega)
    simp only [sumTo]
    omega
theorem sumTo_eq (hh : ∀ k, k < n → f k = g k) : sumTo f n = sumTo g n := by
  induction n with
  | zero => rfl
  | succ n ih => simp only [sumTo]; rw [ih fun k hk => hh k (by omega), hh n (by omega)]
theorem sumTo_add : sumTo (fun k => f k + g k) n = sumTo f n + sumTo g n := by
  induction n with
  | zero => rfl
  | succ n ih => simp only [sumTo, ih]; omega
theorem sumTo_nonneg (hh : ∀ k, k < n → 0 ≤ f k) : 0 ≤ sumTo f n := by
  induction n with
  | zero => exact Int.le_refl _
  | succ n ih =>
    have := ih fun k hk => hh k (by omega)
    have := hh n (by omega)
    simp only [sumTo]
    omega
theorem sumTo_bound {m : Int} (hh : ∀ k, k < n → f k ≤ m) : sumTo f n ≤ n * m := by
  induction n with
  | zero => simp [sumTo]
  | succ n ih =>
    have h1 := ih fun k hk => hh k (by omega)
    have h2 := hh n (by omega)
    have h3 : ((n + 1 : Nat) : Int) * m = n * m + m := by rw [Int.natCast_add, Int.add_mul]; simp
    simp only [sumTo]
    omega
theorem sumTo_zero (hh : ∀ k, k < n → f k = 0) : sumTo f n = 0 := by
  induction n with
  | zero => rfl
  | succ n ih => simp only [sumTo]; rw [ih fun k hk => hh k (by omega), hh n (by omega)]; rfl
/-- All but one are 0. -/
theorem sumTo_one {i : Nat} (hi : i < n) (hh : ∀ k, k < n → k ≠ i → f k = 0) : sumTo f n = f i := by
  induction n with
  | zero => omega
  | succ n ih =>
    simp only [sumTo]
    by_cases e : n = i
    · subst e
      rw [sumTo_zero fun k hk => hh k (by omega) (by omega)]
      omega
    · rw [ih (by omega) fun k hk hne => hh k (by omega) hne, hh n (by omega) e]
      omega
/-- One of them is more by at most d, the others are the same. -/
theorem sumTo_step {i : Nat} {d : Int} (hi : i < n) (hh : ∀ k, k < n → k ≠ i → f k = g k) (h1 : f i ≤ g i) (h2 : g i ≤ f i + d) : sumTo f n ≤ sumTo g n ∧ sumTo g n ≤ sumTo f n + d := by
  induction n with
  | zero => omega
  | succ n ih =>
    simp only [sumTo]
    by_cases e : n = i
    · subst e
      rw [sumTo_eq (f := f) (g := g) fun k hk => hh k (by omega) (by omega)]
      omega
    · have := ih (by omega) fun k hk hne => hh k (by omega) hne
      rw [hh n (by omega) e]
      omega
end

theorem sumTo_front (f : Nat → Int) (n : Nat) : sumTo f (n + 1) = f 0 + sumTo (fun k => f (k + 1)) n := by
  induction n with
  | zero => simp [sumTo]
  | succ n ih =>
    have e : sumTo f (n + 1 + 1) = sumTo f (n + 1) + f (n + 1) := rfl
    rw [e, ih]
    simp only [sumTo]
    omega
theorem sumTo_list (g : Int → Int) : ∀ l : List Int, sumTo (fun k => g ((l[k]?).getD 0)) l.length = (l.map g).sum := by
  intro l
  induction l with
  | nil => rfl
  | cons x r ih =>
    rw [List.length_cons, sumTo_front]
    have e : (fun k : Nat => g (((x :: r)[k + 1]?).getD 0)) = fun k : Nat => g ((r[k]?).getD 0) := by funext k; rw [List.getElem?_cons_succ]
    rw [e, ih, List.map_cons, List.sum_cons]
    rfl
/-- One sum of what is no less than 0, and no more than m. -/
theorem sumTo_in {f : Nat → Int} {n : Nat} {m : Int} (h0 : 0 ≤ m) (h : ∀ k, k < n → 0 ≤ f k ∧ f k ≤ m) : ∀ k, k ≤ n → 0 ≤ sumTo f k ∧ sumTo f k ≤ n * m := by
  intro k hk
  refine ⟨sumTo_nonneg fun j hj => (h j (by omega)).1, ?_⟩
  have a := sumTo_bound (f := f) (n := k) (m := m) fun j hj => (h j (by omega)).2
  have b : (k : Int) * m ≤ (n : Int) * m := Int.mul_le_mul_of_nonneg_right (by omega) h0
  omega

/-! ### What a layout that may be has -/
structure MayC (c : Cf) : Prop where
  size : sizeB c.size = true
  one : 1 ≤ c.xs.length
  few : c.xs.length ≤ 16
  rise : okFrom c.size 0 c.xs = true
  keep : c.ks.length = c.cn ∧ ∀ (j : Nat) (s : Int), c.ks[j]? = some s → 0 ≤ s ∧ s ≤ 1024
  most : 1 ≤ c.most ∧ c.most ≤ large c.size
  step : 1 ≤ c.step ∧ c.step ≤ 65536
theorem mayC {c : Cf} (h : confB c = true) : MayC c := by
  simp only [confB, Bool.and_eq_true] at h
  obtain ⟨h1, _, h3, h4, h5, _, _, h8⟩ := h
  simp only [mayB, Bool.and_eq_true, decide_eq_true_eq] at h3
  exact ⟨h1, h3.1.1, h3.1.2, h3.2, keepB_true h4, inB_true.1 h8, inB_true.1 h5⟩
section
variable {c : Cf}
/-- The last class's size is the greatest one. -/
theorem MayC.small (h : MayC c) : ∃ l, c.xs[c.xs.length - 1]? = some l ∧ small c = l ∧ 8 ≤ l ∧ l ≤ c.size := by
  have h1 := h.one
  have hs : c.xs[c.xs.length - 1]? = some (c.xs[c.xs.length - 1]'(by omega)) := List.getElem?_eq_getElem (by omega)
  obtain ⟨a, _, b, _⟩ := okFrom_all c.xs 0 h.rise _ _ hs
  refine ⟨_, hs, ?_, a, b⟩
  unfold Proofs.Ytfkegbipfekbdaa.small
  rw [show ((c.xs.length : Int) - 1) = ((c.xs.length - 1 : Nat) : Int) by omega, sizeAt_at hs]
theorem MayC.le_small (h : MayC c) {j : Nat} {s : Int} (hs : c.xs[j]? = some s) : s ≤ Proofs.Ytfkegbipfekbdaa.small c := by
  obtain ⟨l, hl, e, _, _⟩ := h.small
  rw [e]
  have hj := (List.getElem?_eq_some_iff.1 hs).1
  by_cases q : j = c.xs.length - 1
  · subst q
    rw [hl] at hs
    injection hs with hs
    omega
  · have := okFrom_rise c.xs 0 h.rise j (c.xs.length - 1) s l (by omega) hs hl
    omega
/-- What no class holds is above the greatest one, and is picked by none; all else is picked by a class that there is. -/
theorem MayC.pick_large (h : MayC c) {s : Int} (hs : Proofs.Ytfkegbipfekbdaa.small c < s) : pick c.xs s = -1 := by
  refine pick_none fun j t _ ht => ?_
  have := h.le_small ht
  omega
theorem MayC.pick_small (h : MayC c) {s : Int} (h1 : 1 ≤ s) (hs : s ≤ Proofs.Ytfkegbipfekbdaa.small c) : ∃ k : Nat, k < c.xs.length ∧ pick c.xs s = k := by
  obtain ⟨l, hl, e, _, _⟩ := h.small
  rcases pick_ways c.xs s with ⟨g, _⟩ | ⟨_, _, g⟩ | ⟨k, t, _, hk, g, _⟩
  · omega
  · have h1 := h.one
    have := g (c.xs.length - 1) l (by omega) hl
    omega
  · exact ⟨k, hk, g⟩
/-- A class's size is picked by that class. -/
theorem MayC.pick_class (h : MayC c) {k : Nat} {s : Int} (hs : c.xs[k]? = some s) : pick c.xs s = k := by
  have h8 := okFrom_all c.xs 0 h.rise k s hs
  exact pick_hit (by omega) hs (fun j t hj ht => okFrom_rise c.xs 0 h.rise j k t s hj ht hs) (Int.le_refl _)
theorem MayC.blocks (h : MayC c) {k : Nat} (hk : k < c.xs.length) : 1 ≤ Proofs.Ytfkegbipfekbdaa.blocks c k ∧ Proofs.Ytfkegbipfekbdaa.blocks c k ≤ 512 := by
  obtain ⟨z1, z2, z3⟩ := sizeB_true.1 h.size
  have hs : c.xs[k]? = some (c.xs[k]'hk) := List.getElem?_eq_getElem hk
  obtain ⟨a1, _, a3, _⟩ := okFrom_all c.xs 0 h.rise _ _ hs
  generalize c.xs[k]'hk = s at hs a1 a3
  have e : Proofs.Ytfkegbipfekbdaa.blocks c k = c.size / s := by unfold Proofs.Ytfkegbipfekbdaa.blocks; rw [sizeAt_at hs, whole_on (by omega) (by omega)]
  obtain ⟨g1, g2, g3, g4, g5⟩ := div_facts (n := c.size) (b := s) (by omega) (by omega)
  rw [e]
  have q1 : 1 ≤ c.size / s := (Int.le_ediv_iff_mul_le (by omega)).2 (by omega)
  have q2 : c.size / s * 8 ≤ c.size / s * s := Int.mul_le_mul_of_nonneg_left a1 g1
  omega
theorem MayC.large (h : MayC c) : 64 ≤ c.size ∧ c.size ≤ 4096 ∧ c.most ≤ 2097152 := by
  obtain ⟨z1, z2, z3⟩ := sizeB_true.1 h.size
  have := large_bounds c.size
  have := h.most
  omega
end

/-! ### Things -/
def isT (c : Cf) (s : Int) : Bool := decide (1 ≤ s) && decide (s ≤ c.most)
theorem isT_true {c : Cf} {s : Int} : isT c s = true ↔ 1 ≤ s ∧ s ≤ c.most := by simp [isT]
/-- Is it a small thing of that class? -/
def liveB (c : Cf) (k s : Int) : Bool := decide (0 ≤ k) && (isT c s && (pick c.xs s == k))
/-- How many are a class's. -/
def liveN (c : Cf) (l : List Int) (k : Int) : Nat := l.countP (liveB c k)
/-- Pages of large things. -/
def bigOf (c : Cf) (s : Int) : Int := if small c < s then allOf s c.size else 0
def bigN (c : Cf) (l : List Int) : Int := (l.map (bigOf c)).sum
/-- Pages of small things. -/
def smallN (c : Cf) (l : List Int) : Int := sumTo (fun k => many (liveN c l k) (blocks c k)) c.xs.length
def pagesN (c : Cf) (l : List Int) : Int := bigN c l + smallN c l
def pagesOut (c : Cf) (l : List Int) : Int × Int := if l.all (isT c) = true then (pagesN c l, 0) else (0, 3)
/-- What may stay open, and what moves. -/
def moreOf (c : Cf) (ms : List Bool) (k : Nat) : Int := (c.ks[k]?).getD 0 + (if (ms[k]?).getD false = true then 1 else 0)
def mostOut (c : Cf) (l : List Int) (ms : List Bool) : Int × Int :=
  if l.all (isT c) = true then (if ms.length = c.cn then (pagesN c l + sumTo (moreOf c ms) c.cn, 0) else (0, 1)) else (0, 3)

section
variable {c : Cf} {l r : List Int} {s k : Int}
theorem liveN_app : liveN c (l ++ r) k = liveN c l k + liveN c r k := List.countP_append
theorem liveN_len : liveN c l k ≤ l.length := List.countP_le_length
theorem liveN_one : liveN c [s] k = if liveB c k s = true then 1 else 0 := by
  unfold liveN
  rw [List.countP_cons, List.countP_nil, Nat.zero_add]
theorem liveN_neg (h : k < 0) : liveN c l k = 0 := by
  unfold liveN
  rw [List.countP_eq_zero]
  intro x _
  simp [liveB]
  omega
theorem bigN_app : bigN c (l ++ r) = bigN c l + bigN c r := by simp [bigN]
theorem allOf_bounds {n p : Int} (hn : n ≤ 4194304) : 0 ≤ allOf n p ∧ allOf n p ≤ 4194305 := by
  unfold allOf
  by_cases h : n < 1 ∨ p < 1
  · rw [many_off h]; simp
  · have := many_facts (n := n) (b := p) (by omega) (by omega)
    split <;> omega
theorem bigOf_bounds (h : MayC c) (hs : s ≤ c.most) : 0 ≤ bigOf c s ∧ bigOf c s ≤ 4194305 := by
  have := h.large
  unfold bigOf
  split
  · exact allOf_bounds (by omega)
  · omega
theorem bigN_bounds (h : MayC c) : ∀ l : List Int, l.all (isT c) = true → 0 ≤ bigN c l ∧ bigN c l ≤ l.length * 4194305 := by
  intro l
  induction l with
  | nil => intro _; simp [bigN]
  | cons s r ih =>
    intro ha
    rw [List.all_cons, Bool.and_eq_true] at ha
    obtain ⟨i1, i2⟩ := ih ha.2
    obtain ⟨b1, b2⟩ := bigOf_bounds h (isT_true.1 ha.1).2
    have e : bigN c (s :: r) = bigOf c s + bigN c r := by simp [bigN]
    rw [e, List.length_cons]
    omega
theorem smallN_bounds (h : MayC c) (l : List Int) : 0 ≤ smallN c l ∧ smallN c l ≤ 16 * l.length := by
  have hf := h.few
  have b : ∀ k, k < c.xs.length → many (liveN c l k) (blocks c k) ≤ (l.length : Int) := fun k _ => by
    have := (many_any_bounds (x := (liveN c l k : Int)) (p := blocks c k) (by omega)).2
    have := liveN_len (c := c) (l := l) (k := k)
    omega
  have b2 := sumTo_bound b
  refine ⟨sumTo_nonneg fun k _ => (many_any_bounds (by omega)).1, ?_⟩
  have h3 : (c.xs.length : Int) * (l.length : Int) ≤ 16 * (l.length : Int) := Int.mul_le_mul_of_nonneg_right (by omega) (by omega)
  unfold smallN
  omega
/-- P17.3: a thing more. -/
theorem more_large (h : MayC c) (hs : small c < s) : pagesN c (l ++ [s]) = pagesN c l + allOf s c.size := by
  have hp := h.pick_large hs
  have e1 : bigN c (l ++ [s]) = bigN c l + allOf s c.size := by
    rw [bigN_app]
    simp [bigN, bigOf, hs]
  have e2 : smallN c (l ++ [s]) = smallN c l := sumTo_eq fun k _ => by
    have : liveB c k s = false := by
      have hk : ¬ (-1 : Int) = (k : Int) := by omega
      simp [liveB, hp, hk]
    rw [liveN_app, liveN_one, this]
    simp
  unfold pagesN
  rw [e1, e2]
  omega
theorem more_small (h : MayC c) (h1 : 1 ≤ s) (h2 : s ≤ c.most) (hs : s ≤ small c) : pagesN c l ≤ pagesN c (l ++ [s]) ∧ pagesN c (l ++ [s]) ≤ pagesN c l + 1 := by
  obtain ⟨i, hi, hp⟩ := h.pick_small h1 hs
  have e1 : bigN c (l ++ [s]) = bigN c l := by
    rw [bigN_app]
    have : ¬ small c < s := by omega
    simp [bigN, bigOf, this]
  have hb := (h.blocks hi).1
  have e2 : smallN c l ≤ smallN c (l ++ [s]) ∧ smallN c (l ++ [s]) ≤ smallN c l + 1 := by
    refine sumTo_step hi (fun k hk hne => ?_) ?_ ?_
    · have hk : ¬ (i : Int) = (k : Int) := by omega
      have : liveB c k s = false := by simp [liveB, hp, hk]
      rw [liveN_app, liveN_one, this]
      simp
    all_goals
      have : liveB c i s = true := by simp [liveB, hp, isT, h1, h2]
      rw [liveN_app, liveN_one, this]
      have hm := many_more (x := (liveN c l i : Int)) (y := 1) (p := blocks c i) (by omega) (by omega) hb
      have ho : many 1 (blocks c i) = 1 := many_window (by omega) hb (by omega) (by omega)
      rw [if_pos rfl, Int.natCast_add]
      simp only [Int.natCast_one]
      omega
  unfold pagesN
  omega
/-- P17.1: in another turn they need the same. -/
theorem pagesN_comm : pagesN c (r ++ l) = pagesN c (l ++ r) := by
  unfold pagesN
  rw [bigN_app, bigN_app, Int.add_comm (bigN c r)]
  congr 1
  exact sumTo_eq fun k _ => by rw [liveN_app, liveN_app, Nat.add_comm]
/-- All together no more than some, and the others, do; no less than some. -/
theorem pagesN_parts (h : MayC c) (hl : l.all (isT c) = true) (hr : r.all (isT c) = true) : pagesN c (l ++ r) ≤ pagesN c l + pagesN c r ∧ pagesN c l ≤ pagesN c (l ++ r) ∧ pagesN c r ≤ pagesN c (l ++ r) := by
  have b1 := (bigN_bounds h l hl).1
  have b2 := (bigN_bounds h r hr).1
  have m := fun (k : Nat) (hk : k < c.xs.length) => many_more (x := (liveN c l k : Int)) (y := (liveN c r k : Int)) (p := blocks c k) (by omega) (by omega) (h.blocks hk).1
  have m2 := fun (k : Nat) (hk : k < c.xs.length) => many_more (x := (liveN c r k : Int)) (y := (liveN c l k : Int)) (p := blocks c k) (by omega) (by omega) (h.blocks hk).1
  have s1 : smallN c (l ++ r) ≤ smallN c l + smallN c r := by
    have : smallN c l + smallN c r = sumTo (fun k => many (liveN c l k) (blocks c k) + many (liveN c r k) (blocks c k)) c.xs.length := sumTo_add.symm
    rw [this]
    exact sumTo_le fun k hk => by rw [liveN_app, Int.natCast_add]; exact (m k hk).2
  have s2 : smallN c l ≤ smallN c (l ++ r) := sumTo_le fun k hk => by rw [liveN_app, Int.natCast_add]; exact (m k hk).1
  have s3 : smallN c r ≤ smallN c (l ++ r) := sumTo_le fun k hk => by rw [liveN_app, Nat.add_comm, Int.natCast_add]; exact (m2 k hk).1
  unfold pagesN
  rw [bigN_app]
  omega
/-- So many things of one class's size. -/
theorem liveN_same (h : MayC c) {i n : Nat} (hs : c.xs[i]? = some s) (hm : s ≤ c.most) : liveN c (List.replicate n s) i = n ∧ ∀ k : Int, k ≠ i → liveN c (List.replicate n s) k = 0 := by
  have h8 := okFrom_all c.xs 0 h.rise i s hs
  have hp := h.pick_class hs
  constructor
  · unfold liveN
    have : liveB c i s = true := by simp [liveB, hp, isT, hm]; omega
    rw [List.countP_replicate, if_pos this]
  · intro k hk
    unfold liveN
    have hk2 : ¬ (i : Int) = k := fun e => hk e.symm
    have : liveB c k s = false := by simp [liveB, hp, hk2]
    rw [List.countP_replicate, this]
    simp
theorem pagesN_same (h : MayC c) {i n : Nat} (hs : c.xs[i]? = some s) (hm : s ≤ c.most) : pagesN c (List.replicate n s) = many n (blocks c i) := by
  obtain ⟨l1, l2⟩ := liveN_same h (n := n) hs hm
  have hi := (List.getElem?_eq_some_iff.1 hs).1
  have hle := h.le_small hs
  have e1 : bigN c (List.replicate n s) = 0 := by
    have : bigOf c s = 0 := by unfold bigOf; rw [if_neg (by omega)]
    unfold bigN
    rw [List.map_replicate, this]
    induction n with
    | zero => rfl
    | succ n ih => rw [List.replicate_succ, List.sum_cons, ih (liveN_same h hs hm).1 (liveN_same h hs hm).2]; rfl
  have e2 : smallN c (List.replicate n s) = many n (blocks c i) := by
    unfold smallN
    rw [sumTo_one hi fun k _ hne => by rw [l2 k (by omega)]; exact many_off (.inl (by simp)), l1]
  unfold pagesN
  rw [e1, e2]
  omega
theorem all_same (h : MayC c) {i n : Nat} (hs : c.xs[i]? = some s) (hm : s ≤ c.most) : (List.replicate n s).all (isT c) = true := by
  have h8 := okFrom_all c.xs 0 h.rise i s hs
  rw [List.all_eq_true]
  intro x hx
  rw [(List.mem_replicate.1 hx).2]
  exact isT_true.2 ⟨by omega, hm⟩
/-- Of things and others it is told as of both. -/
theorem all_app : (l ++ r).all (isT c) = (l.all (isT c) && r.all (isT c)) := List.all_append
end
end Go.Proofs.Ytfkegbipfekbdaa
/-
  A place, plain: a block of a class's page, or, of class -1, an index page, and pages. No statement about a Go function.
-/
namespace Go.Proofs.Ytfkegbipfekbdaa

/-- A place. -/
structure Pc where
  cl : Int
  n : Int
  i : Int
  ps : List Int
def noPc : Pc := ⟨0, 0, 0, []⟩
end Go.Proofs.Ytfkegbipfekbdaa
