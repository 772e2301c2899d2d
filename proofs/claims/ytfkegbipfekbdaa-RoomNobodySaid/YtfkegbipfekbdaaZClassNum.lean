import Derived.Test.YtfkegbipfekbdaaRows
import Derived.WalkKit
import Derived.ProofKit
import Derived.OpenShut
import Derived.Lib.Hide
import Derived.Deep.Draws
/-
  A slice of ints that reads as a list of numbers, nil let in, in a word of its own; and how it is kept while memory grows. No statement about a Go function.
-/
namespace Go.Proofs.Ytfkegbipfekbdaa
open Go.ChangeShapes Go.WideShapes Go.ChangeAt Go.RowKit

/-- The slice value '.slice a n c' holds the n numbers xs, all of them ints of 64 bits, below block B. -/
def Ints (w : World) (B : Nat) (a : Option Addr) (n : Nat) (xs : List Int) : Prop :=
  xs.length = n ∧ n ≤ 9223372036854775807 ∧ (∀ x ∈ xs, -9223372036854775808 ≤ x ∧ x ≤ 9223372036854775807) ∧
    (0 < n → ∃ b o, a = some ⟨b, o, none⟩ ∧ b < B ∧ ∀ (k : Nat) (s : Int), xs[k]? = some s → w.cell? ⟨b, o + k, none⟩ = some (.int .i64 s))

section
variable {w w' : World} {B B' n : Nat} {a : Option Addr} {xs : List Int}
theorem Ints.len (h : Ints w B a n xs) : xs.length = n := h.1
theorem Ints.max (h : Ints w B a n xs) : n ≤ 9223372036854775807 := h.2.1
theorem Ints.fit (h : Ints w B a n xs) {k : Nat} {s : Int} (hk : xs[k]? = some s) : -9223372036854775808 ≤ s ∧ s ≤ 9223372036854775807 := h.2.2.1 s (List.mem_of_getElem? hk)
/-- Where the slice begins, if it has an element. -/
theorem Ints.head (h : Ints w B a n xs) (hn : 0 < n) : ∃ b o, a = some ⟨b, o, none⟩ ∧ b < B ∧ ∀ (k : Nat) (s : Int), xs[k]? = some s → w.cell? ⟨b, o + k, none⟩ = some (.int .i64 s) := h.2.2.2 hn
theorem Ints.at_ (h : Ints w B a n xs) {k : Nat} (hk : k < n) : ∃ s, xs[k]? = some s ∧ -9223372036854775808 ≤ s ∧ s ≤ 9223372036854775807 := by
  have hl : k < xs.length := by rw [h.1]; exact hk
  have hs : xs[k]? = some xs[k] := List.getElem?_eq_getElem hl
  exact ⟨_, hs, h.fit hs⟩
theorem Ints.keep (h : Ints w B a n xs) (hk : ∀ p : Addr, p.block < B → w'.cell? p = w.cell? p) : Ints w' B a n xs :=
  ⟨h.1, h.2.1, h.2.2.1, fun hn => by
    obtain ⟨b, o, e, hb, hc⟩ := h.2.2.2 hn
    exact ⟨b, o, e, hb, fun k s hs => (hk _ hb).trans (hc k s hs)⟩⟩
theorem Ints.more (h : Ints w B a n xs) (hB : B ≤ B') : Ints w B' a n xs :=
  ⟨h.1, h.2.1, h.2.2.1, fun hn => by
    obtain ⟨b, o, e, hb, hc⟩ := h.2.2.2 hn
    exact ⟨b, o, e, by omega, hc⟩⟩
theorem Ints.below (h : Ints w B a n xs) (hb : Below B w w') : Ints w' B a n xs := h.keep fun _ hp => hb.cell hp
theorem Ints.on (h : Ints w w.heap.size a n xs) (hb : Below w.heap.size w w') : Ints w' w'.heap.size a n xs := (h.below hb).more hb.size
theorem Ints.drewN (h : Ints w B a n xs) (k : Nat) : Ints (w.drewN k) B a n xs := h
theorem Ints.drew (h : Ints w B a n xs) : Ints w.drew B a n xs := h
theorem Ints.alloc (h : Ints w B a n xs) (hB : B ≤ w.heap.size) (o : Obj) : Ints (w.alloc o) B a n xs := h.keep fun p hp => World.cell?_alloc_lt w o p (by omega)
end

theorem wf_i64 {x : Int} (h : (Lit.int .i64 x).wf = true) : -9223372036854775808 ≤ x ∧ x ≤ 9223372036854775807 := by
  simpa [Lit.wf, IntKind.min, IntKind.max, IntKind.signed, IntKind.bits] using h

/-- What the frame of a law is told of a slice of ints, in this text's word: the elements alone. -/
theorem Ints.of_row {w : World} {a : Option Addr} {len cap : Nat} {zs : List Int}
    (h : (a = none ∧ len = 0 ∧ cap = 0 ∧ zs = []) ∨
      ∃ x, a = some x ∧ len ≤ cap ∧ cap ≤ maxLen ∧ zs.length = cap ∧ (∀ i, i < zs.length → w.cell? (x.add i) = some (.int .i64 (zs.getD i 0))) ∧ ∀ n ∈ zs, (Lit.int .i64 n).wf = true) :
    Ints w w.heap.size a len (zs.take len) := by
  rcases h with ⟨rfl, rfl, rfl, rfl⟩ | ⟨⟨b, o, sp⟩, rfl, hl, hm, hz, hc, hw⟩
  · exact ⟨rfl, by omega, by simp, fun h => absurd h (by omega)⟩
  · unfold maxLen at hm
    refine ⟨by rw [List.length_take]; omega, by omega, fun x hx => wf_i64 (hw x (List.mem_of_mem_take hx)), fun hn => ?_⟩
    have h0 := hc 0 (by omega)
    have hsp : sp = none := by simpa [Addr.add] using World.cell?_spot h0
    subst hsp
    refine ⟨b, o, rfl, ?_, fun k s hs => ?_⟩
    · have h1 : w.cell? ⟨b, o, none⟩ = some (.int .i64 (zs.getD 0 0)) := by simpa [Addr.add] using h0
      rcases Nat.lt_or_ge b w.heap.size with g | g
      · exact g
      · simp [World.cell?, Array.getElem?_eq_none g] at h1
    · rw [List.getElem?_take] at hs
      split at hs
      · obtain ⟨hk, e⟩ := List.getElem?_eq_some_iff.1 hs
        have h2 := hc k hk
        have e2 : zs.getD k 0 = s := by rw [List.getD_eq_getElem?_getD, hs]; rfl
        rw [e2] at h2
        by_cases hk0 : k = 0
        · subst hk0; simpa [Addr.add] using h2
        · simpa [Addr.add, hk0] using h2
      · cases hs
end Go.Proofs.Ytfkegbipfekbdaa
/-
  The plain numbers of package unit: many, whole, upTo, spare, and what follows of them. No statement about a Go function.
-/
namespace Go.Proofs.Ytfkegbipfekbdaa

/-! ### The plain numbers -/
def many (n b : Int) : Int := if n < 1 ∨ b < 1 then 0 else if n % b = 0 then n / b else n / b + 1
def whole (n b : Int) : Int := if n < 1 ∨ b < 1 then 0 else n / b
def upTo (n b : Int) : Int := if many n b * b ≤ 9223372036854775807 then many n b * b else 0
def spare (n b : Int) : Int := if upTo n b = 0 then 0 else upTo n b - n

theorem many_off {n b : Int} (h : n < 1 ∨ b < 1) : many n b = 0 := if_pos h
theorem whole_off {n b : Int} (h : n < 1 ∨ b < 1) : whole n b = 0 := if_pos h
theorem whole_on {n b : Int} (hn : 1 ≤ n) (hb : 1 ≤ b) : whole n b = n / b := if_neg (by omega)
theorem many_even {n b : Int} (hn : 1 ≤ n) (hb : 1 ≤ b) (h : n % b = 0) : many n b = n / b := by
  unfold many; rw [if_neg (by omega), if_pos h]
theorem many_odd {n b : Int} (hn : 1 ≤ n) (hb : 1 ≤ b) (h : ¬ n % b = 0) : many n b = n / b + 1 := by
  unfold many; rw [if_neg (by omega), if_neg h]
theorem upTo_off {n b : Int} (h : n < 1 ∨ b < 1) : upTo n b = 0 := by unfold upTo; rw [many_off h]; simp
theorem spare_off {n b : Int} (h : n < 1 ∨ b < 1) : spare n b = 0 := if_pos (upTo_off h)

/-- A quotient times its divisor, and the rest. -/
theorem div_facts {n b : Int} (hn : 1 ≤ n) (hb : 1 ≤ b) : 0 ≤ n / b ∧ n / b ≤ n ∧ n / b * b + n % b = n ∧ 0 ≤ n % b ∧ n % b < b := by
  have h1 := Int.emod_nonneg n (show b ≠ 0 by omega)
  have h2 := Int.emod_lt_of_pos n (show 0 < b by omega)
  have h3 := Int.ediv_mul_add_emod n b
  have h4 := Int.ediv_nonneg (show 0 ≤ n by omega) (show 0 ≤ b by omega)
  have h5 := Int.ediv_le_self b (show 0 ≤ n by omega)
  exact ⟨h4, h5, h3, h1, h2⟩

/-- Where a rest is left the quotient is below the number: one more is an int still. -/
theorem div_lt {n b : Int} (hn : 1 ≤ n) (hb : 1 ≤ b) (h : ¬ n % b = 0) : n / b + 1 ≤ n := by
  obtain ⟨h1, h2, h3, h4, h5⟩ := div_facts hn hb
  have h6 : n / b * 1 ≤ n / b * b := Int.mul_le_mul_of_nonneg_left hb h1
  omega

theorem many_facts {n b : Int} (hn : 1 ≤ n) (hb : 1 ≤ b) : 1 ≤ many n b ∧ many n b ≤ n ∧ n ≤ many n b * b ∧ many n b * b < n + b := by
  obtain ⟨h1, h2, h3, h4, h5⟩ := div_facts hn hb
  by_cases h0 : n % b = 0
  · rw [many_even hn hb h0]
    have : n / b ≠ 0 := fun e => by rw [e] at h3; omega
    omega
  · rw [many_odd hn hb h0]
    have h6 := div_lt hn hb h0
    rw [Int.add_mul, Int.one_mul]
    omega
end Go.Proofs.Ytfkegbipfekbdaa
/-
  The plain answers of package class as functions of lists of numbers: pick, waste, may, table, look; and what follows of them. No statement about a Go function.
-/
namespace Go.Proofs.Ytfkegbipfekbdaa

/-! ### The first place that holds m -/
def pickAt (m : Int) : Nat → List Int → Int
  | _, [] => -1
  | k, x :: xs => if m ≤ x then (k : Int) else pickAt m (k + 1) xs
def pick (xs : List Int) (m : Int) : Int := if m < 1 then -1 else pickAt m 0 xs
/-- The first k of xs are below m. -/
def Less (xs : List Int) (m : Int) (k : Nat) : Prop := ∀ (j : Nat) (s : Int), j < k → xs[j]? = some s → s < m

theorem Less.zero (xs : List Int) (m : Int) : Less xs m 0 := fun _ _ h => absurd h (by omega)
theorem Less.next {xs : List Int} {m : Int} {k : Nat} {s : Int} (h : Less xs m k) (hk : xs[k]? = some s) (hs : s < m) : Less xs m (k + 1) := by
  intro j t hj ht
  by_cases e : j = k
  · subst e; rw [hk] at ht; injection ht with ht; omega
  · exact h j t (by omega) ht

theorem pickAt_hit {m : Int} : ∀ (xs : List Int) (k i : Nat) (s : Int), xs[k]? = some s → Less xs m k → m ≤ s → pickAt m i xs = ((i + k : Nat) : Int)
  | [], k, i, s, h, _, _ => by simp at h
  | x :: xs, 0, i, s, h, _, hs => by
    simp at h; subst h
    simp [pickAt, hs]
  | x :: xs, k + 1, i, s, h, hl, hs => by
    have h0 : x < m := hl 0 x (by omega) (by simp)
    have ih := pickAt_hit xs k (i + 1) s (by simpa using h) (fun j t hj ht => hl (j + 1) t (by omega) (by simpa using ht)) hs
    simp only [pickAt]
    rw [if_neg (by omega), ih]
    omega
theorem pickAt_none {m : Int} : ∀ (xs : List Int) (i : Nat), Less xs m xs.length → pickAt m i xs = -1
  | [], _, _ => rfl
  | x :: xs, i, hl => by
    have h0 : x < m := hl 0 x (by simp) (by simp)
    simp only [pickAt]
    rw [if_neg (by omega)]
    exact pickAt_none xs (i + 1) (fun j t hj ht => hl (j + 1) t (by simpa using hj) (by simpa using ht))

theorem pick_off {xs : List Int} {m : Int} (h : m < 1) : pick xs m = -1 := if_pos h
theorem pick_hit {xs : List Int} {m s : Int} {k : Nat} (h1 : 1 ≤ m) (hk : xs[k]? = some s) (hl : Less xs m k) (hs : m ≤ s) : pick xs m = (k : Int) := by
  unfold pick; rw [if_neg (by omega), pickAt_hit xs k 0 s hk hl hs]; simp
theorem pick_none {xs : List Int} {m : Int} (hl : Less xs m xs.length) : pick xs m = -1 := by
  unfold pick; split
  · rfl
  · exact pickAt_none xs 0 hl

theorem less_or (xs : List Int) (m : Int) : ∀ n : Nat, Less xs m n ∨ ∃ (k : Nat) (s : Int), k < n ∧ xs[k]? = some s ∧ m ≤ s ∧ Less xs m k
  | 0 => .inl (Less.zero xs m)
  | n + 1 => by
    rcases less_or xs m n with h | ⟨k, s, hk, h1, h2, h3⟩
    · cases hs : xs[n]? with
      | none =>
        refine .inl fun j t hj ht => ?_
        by_cases e : j = n
        · subst e; rw [hs] at ht; cases ht
        · exact h j t (by omega) ht
      | some s =>
        by_cases c : m ≤ s
        · exact .inr ⟨n, s, by omega, hs, c, h⟩
        · exact .inl (h.next hs (by omega))
    · exact .inr ⟨k, s, by omega, h1, h2, h3⟩

/-- PICK, in its three ways. -/
theorem pick_ways (xs : List Int) (m : Int) :
    (m < 1 ∧ pick xs m = -1) ∨ (1 ≤ m ∧ pick xs m = -1 ∧ Less xs m xs.length) ∨ ∃ (k : Nat) (s : Int), 1 ≤ m ∧ k < xs.length ∧ pick xs m = (k : Int) ∧ xs[k]? = some s ∧ m ≤ s ∧ Less xs m k := by
  by_cases h : m < 1
  · exact .inl ⟨h, pick_off h⟩
  · rcases less_or xs m xs.length with g | ⟨k, s, hk, h1, h2, h3⟩
    · exact .inr (.inl ⟨by omega, pick_none g, g⟩)
    · exact .inr (.inr ⟨k, s, by omega, hk, pick_hit (by omega) h1 h3 h2, h1, h2, h3⟩)

/-! ### What it has more -/
def waste (xs : List Int) (m : Int) : Int := if pick xs m < 0 then -1 else (xs[(pick xs m).toNat]?).getD 0 - m
theorem waste_off {xs : List Int} {m : Int} (h : pick xs m = -1) : waste xs m = -1 := by unfold waste; rw [if_pos (by omega)]
theorem waste_hit {xs : List Int} {m s : Int} {k : Nat} (h : pick xs m = (k : Int)) (hk : xs[k]? = some s) : waste xs m = s - m := by
  unfold waste; rw [h, if_neg (by omega), Int.toNat_natCast, hk]; rfl

/-! ### Whether sizes may be -/
def okFrom (page : Int) : Int → List Int → Bool
  | _, [] => true
  | p, x :: xs => decide (8 ≤ x) && (x % 8 == 0) && decide (x ≤ page) && decide (p < x) && okFrom page x xs
def mayB (xs : List Int) (page : Int) : Bool := decide (1 ≤ xs.length) && decide (xs.length ≤ 16) && okFrom page 0 xs
def may (xs : List Int) (page : Int) : Int := if mayB xs page = true then 0 else 1
/-- The first k of xs are as they may be; p is the last of them, or 0. -/
def OkTo (xs : List Int) (page : Int) (k : Nat) (p : Int) : Prop := okFrom page 0 xs = okFrom page p (xs.drop k) ∧ ((k = 0 ∧ p = 0) ∨ (1 ≤ k ∧ xs[k - 1]? = some p))

theorem drop_at {xs : List Int} {k : Nat} {s : Int} (h : xs[k]? = some s) : xs.drop k = s :: xs.drop (k + 1) := by
  obtain ⟨hk, e⟩ := List.getElem?_eq_some_iff.1 h
  rw [List.drop_eq_getElem_cons hk, e]
theorem OkTo.zero (xs : List Int) (page : Int) : OkTo xs page 0 0 := ⟨by simp, .inl ⟨rfl, rfl⟩⟩
theorem OkTo.bad {xs : List Int} {page p s : Int} {k : Nat} (h : OkTo xs page k p) (hk : xs[k]? = some s) (hb : s < 8 ∨ ¬ s % 8 = 0 ∨ page < s ∨ s ≤ p) : may xs page = 1 := by
  have e : okFrom page 0 xs = false := by
    rw [h.1, drop_at hk]
    simp only [okFrom]
    rcases hb with c | c | c | c
    · simp [show ¬ (8 ≤ s) by omega]
    · simp [c]
    · simp [show ¬ (s ≤ page) by omega]
    · simp [show ¬ (p < s) by omega]
  unfold may mayB; simp [e]
theorem OkTo.next {xs : List Int} {page p s : Int} {k : Nat} (h : OkTo xs page k p) (hk : xs[k]? = some s) (h1 : 8 ≤ s) (h2 : s % 8 = 0) (h3 : s ≤ page) (h4 : p < s) : OkTo xs page (k + 1) s := by
  refine ⟨?_, .inr ⟨by omega, by simpa using hk⟩⟩
  rw [h.1, drop_at hk]
  simp [okFrom, h1, h2, h3, h4]
theorem OkTo.done {xs : List Int} {page p : Int} {k : Nat} (h : OkTo xs page k p) (hk : xs.length ≤ k) (h1 : 1 ≤ xs.length) (h16 : xs.length ≤ 16) : may xs page = 0 := by
  have e : okFrom page 0 xs = true := by rw [h.1, List.drop_eq_nil_of_le hk]; rfl
  unfold may mayB; simp [e, h1, h16]
theorem OkTo.prev {xs : List Int} {page p : Int} {k : Nat} (h : OkTo xs page k p) (hk : 1 ≤ k) : xs[k - 1]? = some p := by
  rcases h.2 with ⟨e, _⟩ | ⟨_, e⟩
  · omega
  · exact e
theorem OkTo.first {xs : List Int} {page p : Int} (h : OkTo xs page 0 p) : p = 0 := by
  rcases h.2 with ⟨_, e⟩ | ⟨e, _⟩
  · exact e
  · omega
theorem may_none {xs : List Int} {page : Int} (h : xs.length = 0 ∨ 16 < xs.length) : may xs page = 1 := by
  unfold may mayB
  rcases h with h | h
  · simp [h]
  · simp [show ¬ xs.length ≤ 16 by omega]
theorem may_01 (xs : List Int) (page : Int) : may xs page = 0 ∨ may xs page = 1 := by unfold may; split <;> simp

/-- Of sizes that may be: each is a multiple of 8 from 8 on, none above the page, and they rise. -/
theorem okFrom_all {page : Int} : ∀ (xs : List Int) (p : Int), okFrom page p xs = true → ∀ (k : Nat) (s : Int), xs[k]? = some s → 8 ≤ s ∧ s % 8 = 0 ∧ s ≤ page ∧ p < s
  | [], _, _, k, s, hs => by simp at hs
  | x :: xs, p, h, k, s, hs => by
    simp only [okFrom, Bool.and_eq_true, decide_eq_true_eq, beq_iff_eq] at h
    obtain ⟨⟨⟨⟨h1, h2⟩, h3⟩, h4⟩, h5⟩ := h
    cases k with
    | zero => simp at hs; subst hs; exact ⟨h1, h2, h3, h4⟩
    | succ k =>
      obtain ⟨a, b, c, d⟩ := okFrom_all xs x h5 k s (by simpa using hs)
      exact ⟨a, b, c, by omega⟩
theorem okFrom_rise {page : Int} : ∀ (xs : List Int) (p : Int), okFrom page p xs = true → ∀ (j k : Nat) (s t : Int), j < k → xs[j]? = some s → xs[k]? = some t → s < t
  | [], _, _, j, k, s, t, _, hs, _ => by simp at hs
  | x :: xs, p, h, j, k, s, t, hjk, hs, ht => by
    simp only [okFrom, Bool.and_eq_true, decide_eq_true_eq, beq_iff_eq] at h
    obtain ⟨⟨⟨⟨h1, h2⟩, h3⟩, h4⟩, h5⟩ := h
    cases k with
    | zero => omega
    | succ k =>
      cases j with
      | zero =>
        simp at hs; subst hs
        exact (okFrom_all xs x h5 k t (by simpa using ht)).2.2.2
      | succ j => exact okFrom_rise xs x h5 j k s t (by omega) (by simpa using hs) (by simpa using ht)
theorem mayB_of {xs : List Int} {page : Int} (h : may xs page = 0) : 1 ≤ xs.length ∧ xs.length ≤ 16 ∧ okFrom page 0 xs = true := by
  unfold may at h
  split at h
  · rename_i g
    simpa [mayB, and_assoc] using g
  · omega

/-! ### The table, and what is looked up -/
def table (xs : List Int) (m : Nat) : List Int := (List.range m).map fun i : Nat => pick xs (8 * (i : Int))
theorem table_length (xs : List Int) (m : Nat) : (table xs m).length = m := by simp [table]
theorem table_at (xs : List Int) {m i : Nat} (h : i < m) : (table xs m)[i]? = some (pick xs (8 * (i : Int))) := by simp [table, List.getElem?_range h]
theorem pick_bounds (xs : List Int) (m : Int) : -1 ≤ pick xs m ∧ pick xs m < xs.length ∨ pick xs m = -1 := by
  rcases pick_ways xs m with ⟨_, h⟩ | ⟨_, h, _⟩ | ⟨k, s, _, hk, h, _⟩ <;> omega
def look (ts : List Int) (n : Int) : Int := if n < 1 then -1 else (ts[(many n 8).toNat]?).getD (-1)
theorem look_off {ts : List Int} {n : Int} (h : n < 1) : look ts n = -1 := if_pos h
theorem look_far {ts : List Int} {n : Int} (h : (ts.length : Int) ≤ many n 8) : look ts n = -1 := by
  unfold look; split
  · rfl
  · rw [List.getElem?_eq_none (by omega)]; rfl
theorem look_at {ts : List Int} {n s : Int} {k : Nat} (h1 : 1 ≤ n) (h : many n 8 = (k : Int)) (hk : ts[k]? = some s) : look ts n = s := by
  unfold look; rw [if_neg (by omega), h, Int.toNat_natCast, hk]; rfl

/-- P2.4: of sizes that may be, what is looked up in their table is the first place that holds so many bytes. -/
theorem look_table {xs : List Int} {page l : Int} (h : okFrom page 0 xs = true) (hl : xs[xs.length - 1]? = some l) (n : Int) : look (table xs ((l / 8).toNat + 1)) n = pick xs n := by
  by_cases h1 : n < 1
  · rw [look_off h1, pick_off h1]
  · obtain ⟨f1, f2, f3, f4⟩ := many_facts (n := n) (b := 8) (by omega) (by omega)
    obtain ⟨l1, l2, l3, l4⟩ := okFrom_all xs 0 h _ _ hl
    obtain ⟨k, hk⟩ := Int.eq_ofNat_of_zero_le (show 0 ≤ many n 8 by omega)
    by_cases hf : (l / 8).toNat + 1 ≤ k
    · rw [look_far (by rw [table_length]; omega)]
      refine (pick_none fun j s hj hs => ?_).symm
      have : s ≤ l := by
        by_cases e : j = xs.length - 1
        · subst e; rw [hl] at hs; injection hs with hs; omega
        · have := okFrom_rise xs 0 h j (xs.length - 1) s l (by omega) hs hl
          omega
      omega
    · rw [look_at (by omega) hk (table_at xs (by omega))]
      -- the first that holds 8 k holds n, and none ahead of it does
      rcases pick_ways xs n with ⟨g, _⟩ | ⟨_, g, gl⟩ | ⟨i, s, _, hi, g, gs, gm, gl⟩
      · omega
      · rw [g]
        refine pick_none fun j s hj hs => ?_
        have := gl j s hj hs
        omega
      · rw [g]
        obtain ⟨s1, s2, s3, s4⟩ := okFrom_all xs 0 h _ _ gs
        refine pick_hit (by omega) gs (fun j t hj ht => ?_) (by omega)
        have := gl j t hj ht
        omega
end Go.Proofs.Ytfkegbipfekbdaa
