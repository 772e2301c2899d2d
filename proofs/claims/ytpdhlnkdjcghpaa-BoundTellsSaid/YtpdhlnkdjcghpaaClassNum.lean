/-
  The plain answers of package class as functions of lists of numbers: pick, waste, may, table, look; and what follows of them. No statement about a Go function.
-/
import Derived.Test.YtpdhlnkdjcghpaaInts
import Derived.Test.YtpdhlnkdjcghpaaUnitNum
namespace Go.Proofs.Ytpdhlnkdjcghpaa

/-! ### The first place that holds m -/
def pickAt (m : Int) : Nat → List Int → Int
  | _, [] => -1
  | k, x :: xs => if m ≤ x then (k : Int) else pickAt m (k + 1) xs
def pick (xs : List Int) (m : Int) : Int := if m < 1 then -1 else pickAt m 0 xs
/-- The first k of xs are below m. -/
def Less (xs : List Int) (m : Int) (k : Nat) : Prop := ∀ (j : Nat) (s : Int), j < k → xs[j]? = some s → s < m

theorem Less.zero (xs : List Int) (m : Int) : Less xs m 0 := fun _ _ h => absurd h (by omega)
theorem Less.next {xs : List Int} {m : Int} {k : Nat} {s : Int} (h : Less xs m k) (hk : xs[k]? = some s) (hs : s < m) : Less xs m (k + 1) := by
  intro j t hj ht
  by_cases e : j = k
  · subst e; rw [hk] at ht; injection ht with ht; omega
  · exact h j t (by omega) ht

theorem pickAt_hit {m : Int} : ∀ (xs : List Int) (k i : Nat) (s : Int), xs[k]? = some s → Less xs m k → m ≤ s → pickAt m i xs = ((i + k : Nat) : Int)
  | [], k, i, s, h, _, _ => by simp at h
  | x :: xs, 0, i, s, h, _, hs => by
    simp at h; subst h
    simp [pickAt, hs]
  | x :: xs, k + 1, i, s, h, hl, hs => by
    have h0 : x < m := hl 0 x (by omega) (by simp)
    have ih := pickAt_hit xs k (i + 1) s (by simpa using h) (fun j t hj ht => hl (j + 1) t (by omega) (by simpa using ht)) hs
    simp only [pickAt]
    rw [if_neg (by omega), ih]
    omega
theorem pickAt_none {m : Int} : ∀ (xs : List Int) (i : Nat), Less xs m xs.length → pickAt m i xs = -1
  | [], _, _ => rfl
  | x :: xs, i, hl => by
    have h0 : x < m := hl 0 x (by simp) (by simp)
    simp only [pickAt]
    rw [if_neg (by omega)]
    exact pickAt_none xs (i + 1) (fun j t hj ht => hl (j + 1) t (by simpa using hj) (by simpa using ht))

theorem pick_off {xs : List Int} {m : Int} (h : m < 1) : pick xs m = -1 := if_pos h
theorem pick_hit {xs : List Int} {m s : Int} {k : Nat} (h1 : 1 ≤ m) (hk : xs[k]? = some s) (hl : Less xs m k) (hs : m ≤ s) : pick xs m = (k : Int) := by
  unfold pick; rw [if_neg (by omega), pickAt_hit xs k 0 s hk hl hs]; simp
theorem pick_none {xs : List Int} {m : Int} (hl : Less xs m xs.length) : pick xs m = -1 := by
  unfold pick; split
  · rfl
  · exact pickAt_none xs 0 hl

theorem less_or (xs : List Int) (m : Int) : ∀ n : Nat, Less xs m n ∨ ∃ (k : Nat) (s : Int), k < n ∧ xs[k]? = some s ∧ m ≤ s ∧ Less xs m k
  | 0 => .inl (Less.zero xs m)
  | n + 1 => by
    rcases less_or xs m n with h | ⟨k, s, hk, h1, h2, h3⟩
    · cases hs : xs[n]? with
      | none =>
        refine .inl fun j t hj ht => ?_
        by_cases e : j = n
        · subst e; rw [hs] at ht; cases ht
        · exact h j t (by omega) ht
      | some s =>
        by_cases c : m ≤ s
        · exact .inr ⟨n, s, by omega, hs, c, h⟩
        · exact .inl (h.next hs (by omega))
    · exact .inr ⟨k, s, by omega, h1, h2, h3⟩

/-- PICK, in its three ways. -/
theorem pick_ways (xs : List Int) (m : Int) :
    (m < 1 ∧ pick xs m = -1) ∨ (1 ≤ m ∧ pick xs m = -1 ∧ Less xs m xs.length) ∨ ∃ (k : Nat) (s : Int), 1 ≤ m ∧ k < xs.length ∧ pick xs m = (k : Int) ∧ xs[k]? = some s ∧ m ≤ s ∧ Less xs m k := by
  by_cases h : m < 1
  · exact .inl ⟨h, pick_off h⟩
  · rcases less_or xs m xs.length with g | ⟨k, s, hk, h1, h2, h3⟩
    · exact .inr (.inl ⟨by omega, pick_none g, g⟩)
    · exact .inr (.inr ⟨k, s, by omega, hk, pick_hit (by omega) h1 h3 h2, h1, h2, h3⟩)

/-! ### What it has more -/
def waste (xs : List Int) (m : Int) : Int := if pick xs m < 0 then -1 else (xs[(pick xs m).toNat]?).getD 0 - m
theorem waste_off {xs : List Int} {m : Int} (h : pick xs m = -1) : waste xs m = -1 := by unfold waste; rw [if_pos (by omega)]
theorem waste_hit {xs : List Int} {m s : Int} {k : Nat} (h : pick xs m = (k : Int)) (hk : xs[k]? = some s) : waste xs m = s - m := by
  unfold waste; rw [h, if_neg (by omega), Int.toNat_natCast, hk]; rfl

/-! ### Whether sizes may be -/
def okFrom (page : Int) : Int → List Int → Bool
  | _, [] => true
  | p, x :: xs => decide (8 ≤ x) && (x % 8 == 0) && decide (x ≤ page) && decide (p < x) && okFrom page x xs
def mayB (xs : List Int) (page : Int) : Bool := decide (1 ≤ xs.length) && decide (xs.length ≤ 16) && okFrom page 0 xs
def may (xs : List Int) (page : Int) : Int := if mayB xs page = true then 0 else 1
/-- The first k of xs are as they may be; p is the last of them, or 0. -/
def OkTo (xs : List Int) (page : Int) (k : Nat) (p : Int) : Prop := okFrom page 0 xs = okFrom page p (xs.drop k) ∧ ((k = 0 ∧ p = 0) ∨ (1 ≤ k ∧ xs[k - 1]? = some p))

theorem drop_at {xs : List Int} {k : Nat} {s : Int} (h : xs[k]? = some s) : xs.drop k = s :: xs.drop (k + 1) := by
  obtain ⟨hk, e⟩ := List.getElem?_eq_some_iff.1 h
  rw [List.drop_eq_getElem_cons hk, e]
theorem OkTo.zero (xs : List Int) (page : Int) : OkTo xs page 0 0 := ⟨by simp, .inl ⟨rfl, rfl⟩⟩
theorem OkTo.bad {xs : List Int} {page p s : Int} {k : Nat} (h : OkTo xs page k p) (hk : xs[k]? = some s) (hb : s < 8 ∨ ¬ s % 8 = 0 ∨ page < s ∨ s ≤ p) : may xs page = 1 := by
  have e : okFrom page 0 xs = false := by
    rw [h.1, drop_at hk]
    simp only [okFrom]
    rcases hb with c | c | c | c
    · simp [show ¬ (8 ≤ s) by omega]
    · simp [c]
    · simp [show ¬ (s ≤ page) by omega]
    · simp [show ¬ (p < s) by omega]
  unfold may mayB; simp [e]
theorem OkTo.next {xs : List Int} {page p s : Int} {k : Nat} (h : OkTo xs page k p) (hk : xs[k]? = some s) (h1 : 8 ≤ s) (h2 : s % 8 = 0) (h3 : s ≤ page) (h4 : p < s) : OkTo xs page (k + 1) s := by
  refine ⟨?_, .inr ⟨by omega, by simpa using hk⟩⟩
  rw [h.1, drop_at hk]
  simp [okFrom, h1, h2, h3, h4]
theorem OkTo.done {xs : List Int} {page p : Int} {k : Nat} (h : OkTo xs page k p) (hk : xs.length ≤ k) (h1 : 1 ≤ xs.length) (h16 : xs.length ≤ 16) : may xs page = 0 := by
  have e : okFrom page 0 xs = true := by rw [h.1, List.drop_eq_nil_of_le hk]; rfl
  unfold may mayB; simp [e, h1, h16]
theorem OkTo.prev {xs : List Int} {page p : Int} {k : Nat} (h : OkTo xs page k p) (hk : 1 ≤ k) : xs[k - 1]? = some p := by
  rcases h.2 with ⟨e, _⟩ | ⟨_, e⟩
  · omega
  · exact e
theorem OkTo.first {xs : List Int} {page p : Int} (h : OkTo xs page 0 p) : p = 0 := by
  rcases h.2 with ⟨_, e⟩ | ⟨e, _⟩
  · exact e
  · omega
theorem may_none {xs : List Int} {page : Int} (h : xs.length = 0 ∨ 16 < xs.length) : may xs page = 1 := by
  unfold may mayB
  rcases h with h | h
  · simp [h]
  · simp [show ¬ xs.length ≤ 16 by omega]
theorem may_01 (xs : List Int) (page : Int) : may xs page = 0 ∨ may xs page = 1 := by unfold may; split <;> simp

/-- Of sizes that may be: each is a multiple of 8 from 8 on, none above the page, and they rise. -/
theorem okFrom_all {page : Int} : ∀ (xs : List Int) (p : Int), okFrom page p xs = true → ∀ (k : Nat) (s : Int), xs[k]? = some s → 8 ≤ s ∧ s % 8 = 0 ∧ s ≤ page ∧ p < s
  | [], _, _, k, s, hs => by simp at hs
  | x :: xs, p, h, k, s, hs => by
    simp only [okFrom, Bool.and_eq_true, decide_eq_true_eq, beq_iff_eq] at h
    obtain ⟨⟨⟨⟨h1, h2⟩, h3⟩, h4⟩, h5⟩ := h
    cases k with
    | zero => simp at hs; subst hs; exact ⟨h1, h2, h3, h4⟩
    | succ k =>
      obtain ⟨a, b, c, d⟩ := okFrom_all xs x h5 k s (by simpa using hs)
      exact ⟨a, b, c, by omega⟩
theorem okFrom_rise {page : Int} : ∀ (xs : List Int) (p : Int), okFrom page p xs = true → ∀ (j k : Nat) (s t : Int), j < k → xs[j]? = some s → xs[k]? = some t → s < t
  | [], _, _, j, k, s, t, _, hs, _ => by simp at hs
  | x :: xs, p, h, j, k, s, t, hjk, hs, ht => by
    simp only [okFrom, Bool.and_eq_true, decide_eq_true_eq, beq_iff_eq] at h
    obtain ⟨⟨⟨⟨h1, h2⟩, h3⟩, h4⟩, h5⟩ := h
    cases k with
    | zero => omega
    | succ k =>
      cases j with
      | zero =>
        simp at hs; subst hs
        exact (okFrom_all xs x h5 k t (by simpa using ht)).2.2.2
      | succ j => exact okFrom_rise xs x h5 j k s t (by omega) (by simpa using hs) (by simpa using ht)
theorem mayB_of {xs : List Int} {page : Int} (h : may xs page = 0) : 1 ≤ xs.length ∧ xs.length ≤ 16 ∧ okFrom page 0 xs = true := by
  unfold may at h
  split at h
  · rename_i g
    simpa [mayB, and_assoc] using g
  · omega

/-! ### The table, and what is looked up -/
def table (xs : List Int) (m : Nat) : List Int := (List.range m).map fun i : Nat => pick xs (8 * (i : Int))
theorem table_length (xs : List Int) (m : Nat) : (table xs m).length = m := by simp [table]
theorem table_at (xs : List Int) {m i : Nat} (h : i < m) : (table xs m)[i]? = some (pick xs (8 * (i : Int))) := by simp [table, List.getElem?_range h]
theorem pick_bounds (xs : List Int) (m : Int) : -1 ≤ pick xs m ∧ pick xs m < xs.length ∨ pick xs m = -1 := by
  rcases pick_ways xs m with ⟨_, h⟩ | ⟨_, h, _⟩ | ⟨k, s, _, hk, h, _⟩ <;> omega
def look (ts : List Int) (n : Int) : Int := if n < 1 then -1 else (ts[(many n 8).toNat]?).getD (-1)
theorem look_off {ts : List Int} {n : Int} (h : n < 1) : look ts n = -1 := if_pos h
theorem look_far {ts : List Int} {n : Int} (h : (ts.length : Int) ≤ many n 8) : look ts n = -1 := by
  unfold look; split
  · rfl
  · rw [List.getElem?_eq_none (by omega)]; rfl
theorem look_at {ts : List Int} {n s : Int} {k : Nat} (h1 : 1 ≤ n) (h : many n 8 = (k : Int)) (hk : ts[k]? = some s) : look ts n = s := by
  unfold look; rw [if_neg (by omega), h, Int.toNat_natCast, hk]; rfl

/-- P2.4: of sizes that may be, what is looked up in their table is the first place that holds so many bytes. -/
theorem look_table {xs : List Int} {page l : Int} (h : okFrom page 0 xs = true) (hl : xs[xs.length - 1]? = some l) (n : Int) : look (table xs ((l / 8).toNat + 1)) n = pick xs n := by
  by_cases h1 : n < 1
  · rw [look_off h1, pick_off h1]
  · obtain ⟨f1, f2, f3, f4⟩ := many_facts (n := n) (b := 8) (by omega) (by omega)
    obtain ⟨l1, l2, l3, l4⟩ := okFrom_all xs 0 h _ _ hl
    obtain ⟨k, hk⟩ := Int.eq_ofNat_of_zero_le (show 0 ≤ many n 8 by omega)
    by_cases hf : (l / 8).toNat + 1 ≤ k
    · rw [look_far (by rw [table_length]; omega)]
      refine (pick_none fun j s hj hs => ?_).symm
      have : s ≤ l := by
        by_cases e : j = xs.length - 1
        · subst e; rw [hl] at hs; injection hs with hs; omega
        · have := okFrom_rise xs 0 h j (xs.length - 1) s l (by omega) hs hl
          omega
      omega
    · rw [look_at (by omega) hk (table_at xs (by omega))]
      -- the first that holds 8 k holds n, and none ahead of it does
      rcases pick_ways xs n with ⟨g, _⟩ | ⟨_, g, gl⟩ | ⟨i, s, _, hi, g, gs, gm, gl⟩
      · omega
      · rw [g]
        refine pick_none fun j s hj hs => ?_
        have := gl j s hj hs
        omega
      · rw [g]
        obtain ⟨s1, s2, s3, s4⟩ := okFrom_all xs 0 h _ _ gs
        refine pick_hit (by omega) gs (fun j t hj ht => ?_) (by omega)
        have := gl j t hj ht
        omega
end Go.Proofs.Ytpdhlnkdjcghpaa
