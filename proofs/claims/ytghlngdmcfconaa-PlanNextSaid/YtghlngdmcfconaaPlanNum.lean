/-
  Counts of open pages as plain lists: which may be, what a move makes of them, and how many moves it takes. No statement about a Go function.
-/
import Derived.Test.YtghlngdmcfconaaFresh
namespace Go.Proofs.Ytghlngdmcfconaa

/-- Each of counts is from 1 to b less 1. -/
def mayL (b : Int) (xs : List Int) : Bool := xs.all fun x => decide (1 ≤ x) && decide (x < b)
/-- So many open pages are above k and 1. -/
def dueB (n k : Int) : Bool := decide (k + 1 < n)
theorem mayL_iff {b : Int} {xs : List Int} : mayL b xs = true ↔ ∀ x ∈ xs, 1 ≤ x ∧ x < b := by
  simp [mayL]
theorem mayL_at {b : Int} {xs : List Int} (h : mayL b xs = true) {k : Nat} {s : Int} (hs : xs[k]? = some s) : 1 ≤ s ∧ s < b := mayL_iff.1 h s (List.mem_of_getElem? hs)

/-! ### Two ends and what lies between -/
/-- A list of two at least has two ends. -/
theorem two_ends {xs : List Int} (h : 2 ≤ xs.length) : ∃ x mid y, xs = x :: (mid ++ [y]) := by
  match xs, h with
  | x :: z :: r, _ =>
    refine ⟨x, (z :: r).dropLast, (z :: r).getLast (by simp), ?_⟩
    rw [List.dropLast_concat_getLast]
theorem last_of (x : Int) (mid : List Int) (y : Int) : (x :: (mid ++ [y])).getLastD 0 = y := by
  rw [← List.cons_append, List.getLastD_concat]
/-- The ends that are left: the first one isn't there, if it is b, the last one isn't, if it is 0. -/
def ends (b : Int) (x : Int) (mid : List Int) (y : Int) : List Int := (if x = b then [] else [x]) ++ (mid ++ (if y = 0 then [] else [y]))
/-- Behind m moves from the last one to the first one. -/
def stepL (b m : Int) (xs : List Int) : List Int := ends b (xs.headD 0 + m) xs.tail.dropLast (xs.getLastD 0 - m)
theorem stepL_eq (b m x : Int) (mid : List Int) (y : Int) : stepL b m (x :: (mid ++ [y])) = ends b (x + m) mid (y - m) := by
  rw [stepL, last_of]
  simp
/-- As many moves as there are up to one by which a page goes. -/
def amt (b : Int) (xs : List Int) : Int := min (b - xs.headD 0) (xs.getLastD 0)
theorem amt_eq (b x : Int) (mid : List Int) (y : Int) : amt b (x :: (mid ++ [y])) = min (b - x) y := by
  rw [amt, last_of]
  rfl
/-- The counts behind one move. -/
def nextL (b : Int) (xs : List Int) : List Int := if xs.length < 2 then xs else stepL b 1 xs
/-- The counts behind all moves up to one by which a page goes. -/
def bulkL (b : Int) (xs : List Int) : List Int := stepL b (amt b xs) xs
theorem nextL_few {b : Int} {xs : List Int} (h : xs.length < 2) : nextL b xs = xs := if_pos h
theorem nextL_eq (b x : Int) (mid : List Int) (y : Int) : nextL b (x :: (mid ++ [y])) = ends b (x + 1) mid (y - 1) := by
  rw [nextL, if_neg (by simp), stepL_eq]
theorem bulkL_eq (b x : Int) (mid : List Int) (y : Int) : bulkL b (x :: (mid ++ [y])) = ends b (x + min (b - x) y) mid (y - min (b - x) y) := by
  rw [bulkL, stepL_eq, amt_eq]
theorem ends_length (b x : Int) (mid : List Int) (y : Int) : (ends b x mid y).length = (if x = b then 0 else 1) + (mid.length + (if y = 0 then 0 else 1)) := by
  unfold ends
  by_cases h : x = b <;> by_cases k : y = 0 <;> simp [h, k] <;> omega
theorem bulk_lt {b : Int} {xs : List Int} (h : 2 ≤ xs.length) : (bulkL b xs).length < xs.length := by
  obtain ⟨x, mid, y, rfl⟩ := two_ends h
  rw [bulkL_eq, ends_length]
  simp only [List.length_cons, List.length_append, List.length_nil]
  by_cases q : b - x ≤ y
  · rw [if_pos (by omega)]
    split <;> omega
  · rw [if_pos (c := y - min (b - x) y = 0) (by omega)]
    split <;> omega
theorem ends_may {b x y : Int} {mid : List Int} (hm : mayL b mid = true) (hx : 1 ≤ x ∧ x ≤ b) (hy : 0 ≤ y ∧ y < b) : mayL b (ends b x mid y) = true := by
  rw [mayL_iff] at hm ⊢
  intro z hz
  unfold ends at hz
  rw [List.mem_append, List.mem_append] at hz
  rcases hz with hz | hz | hz
  · split at hz
    · cases hz
    · rw [List.mem_singleton] at hz; omega
  · exact hm z hz
  · split at hz
    · cases hz
    · rw [List.mem_singleton] at hz; omega
theorem may_parts {b x y : Int} {mid : List Int} (h : mayL b (x :: (mid ++ [y])) = true) : (1 ≤ x ∧ x < b) ∧ mayL b mid = true ∧ 1 ≤ y ∧ y < b := by
  rw [mayL_iff] at h
  exact ⟨h x (by simp), mayL_iff.2 fun z hz => h z (by simp [hz]), h y (by simp)⟩
theorem next_may {b : Int} {xs : List Int} (h : mayL b xs = true) : mayL b (nextL b xs) = true := by
  by_cases hl : xs.length < 2
  · rw [nextL_few hl]; exact h
  · obtain ⟨x, mid, y, rfl⟩ := two_ends (xs := xs) (by omega)
    obtain ⟨hx, hm, hy⟩ := may_parts h
    rw [nextL_eq]
    exact ends_may hm (by omega) (by omega)
theorem bulk_may {b : Int} {xs : List Int} (h : mayL b xs = true) (h2 : 2 ≤ xs.length) : mayL b (bulkL b xs) = true := by
  obtain ⟨x, mid, y, rfl⟩ := two_ends h2
  obtain ⟨hx, hm, hy⟩ := may_parts h
  rw [bulkL_eq]
  exact ends_may hm (by omega) (by omega)
theorem next_len {b : Int} {xs : List Int} : (nextL b xs).length ≤ xs.length := by
  by_cases hl : xs.length < 2
  · rw [nextL_few hl]; exact Nat.le_refl _
  · obtain ⟨x, mid, y, rfl⟩ := two_ends (xs := xs) (by omega)
    rw [nextL_eq, ends_length]
    simp only [List.length_cons, List.length_append, List.length_nil]
    split <;> split <;> omega
theorem next_len2 {b : Int} {xs : List Int} : xs.length ≤ (nextL b xs).length + 2 := by
  by_cases hl : xs.length < 2
  · rw [nextL_few hl]; omega
  · obtain ⟨x, mid, y, rfl⟩ := two_ends (xs := xs) (by omega)
    rw [nextL_eq, ends_length]
    simp only [List.length_cons, List.length_append, List.length_nil]
    split <;> split <;> omega
theorem amt_fit {b : Int} {xs : List Int} (h : mayL b xs = true) (h2 : 2 ≤ xs.length) : 1 ≤ amt b xs ∧ amt b xs < b := by
  obtain ⟨x, mid, y, rfl⟩ := two_ends h2
  obtain ⟨hx, hm, hy⟩ := may_parts h
  rw [amt_eq]
  omega

/-! ### How many moves -/
/-- How often a move is to be made until no page is too much; none, if that never is. -/
def mv (b k : Int) (xs : List Int) : Option Int :=
  if dueB xs.length k then (if _h : 2 ≤ xs.length then (mv b k (bulkL b xs)).map (· + amt b xs) else none) else some 0
termination_by xs.length
decreasing_by exact bulk_lt _h
def movesN (b k : Int) (xs : List Int) : Int := (mv b k xs).getD 0
theorem mv_off {b k : Int} {xs : List Int} (h : dueB xs.length k = false) : mv b k xs = some 0 := by
  rw [mv, h]; rfl
theorem mv_never {b k : Int} {xs : List Int} (h : dueB xs.length k = true) (h2 : xs.length < 2) : mv b k xs = none := by
  rw [mv, h, if_pos rfl, dif_neg (by omega)]
theorem mv_bulk {b k : Int} {xs : List Int} (h : dueB xs.length k = true) (h2 : 2 ≤ xs.length) : mv b k xs = (mv b k (bulkL b xs)).map (· + amt b xs) := by
  rw [mv, h, if_pos rfl, dif_pos h2]
theorem movesN_off {b k : Int} {xs : List Int} (h : dueB xs.length k = false) : movesN b k xs = 0 := by
  rw [movesN, mv_off h]; rfl
theorem movesN_never {b k : Int} {xs : List Int} (h : dueB xs.length k = true) (h2 : xs.length < 2) : movesN b k xs = 0 := by
  rw [movesN, mv_never h h2]; rfl
/-- One move, and what is left then. -/
theorem mv_step {b k : Int} {xs : List Int} (hm : mayL b xs = true) (h : dueB xs.length k = true) (h2 : 2 ≤ xs.length) : mv b k xs = (mv b k (nextL b xs)).map (· + 1) := by
  rw [mv_bulk h h2]
  obtain ⟨x, mid, y, rfl⟩ := two_ends h2
  obtain ⟨hx, hmm, hy⟩ := may_parts hm
  by_cases h1 : min (b - x) y = 1
  · rw [bulkL_eq, amt_eq, nextL_eq, h1]
  · have ex : nextL b (x :: (mid ++ [y])) = (x + 1) :: (mid ++ [y - 1]) := by
      rw [nextL_eq, ends, if_neg (by omega), if_neg (by omega)]
      rfl
    have hl : ((x + 1) :: (mid ++ [y - 1])).length = (x :: (mid ++ [y])).length := by simp
    rw [ex, mv_bulk (xs := (x + 1) :: (mid ++ [y - 1])) (by rw [hl]; exact h) (by rw [hl]; exact h2)]
    have e1 : min (b - (x + 1)) (y - 1) = min (b - x) y - 1 := by omega
    rw [bulkL_eq, bulkL_eq, amt_eq, amt_eq, e1, show x + 1 + (min (b - x) y - 1) = x + min (b - x) y by omega, show y - 1 - (min (b - x) y - 1) = y - min (b - x) y by omega]
    cases mv b k (ends b (x + min (b - x) y) mid (y - min (b - x) y)) with
    | none => rfl
    | some m => simp only [Option.map_some, Option.some.injEq]; omega

/-- By induction over how many counts there are, a bulk of moves at a time. -/
theorem bulk_induction {b k : Int} (Q : List Int → Prop) (off : ∀ xs, dueB xs.length k = false → Q xs) (few : ∀ xs, dueB xs.length k = true → xs.length < 2 → Q xs)
    (step : ∀ xs, mayL b xs = true → dueB xs.length k = true → 2 ≤ xs.length → Q (bulkL b xs) → Q xs) : ∀ xs, mayL b xs = true → Q xs := by
  suffices h : ∀ n (xs : List Int), xs.length ≤ n → mayL b xs = true → Q xs from fun xs hm => h _ xs (Nat.le_refl _) hm
  intro n
  induction n with
  | zero =>
    intro xs hl hm
    cases hd : dueB xs.length k with
    | false => exact off xs hd
    | true => exact few xs hd (by omega)
  | succ n ih =>
    intro xs hl hm
    cases hd : dueB xs.length k with
    | false => exact off xs hd
    | true =>
      by_cases h2 : 2 ≤ xs.length
      · exact step xs hm hd h2 (ih _ (by have := bulk_lt (b := b) h2; omega) (bulk_may hm h2))
      · exact few xs hd (by omega)

/-- With k from 0 on it ends, and takes no more than b less 1 moves for each page that is too much. -/
theorem mv_bound {b k : Int} (hk : 0 ≤ k) : ∀ xs, mayL b xs = true → ∃ m, mv b k xs = some m ∧ 0 ≤ m ∧ m ≤ max ((xs.length : Int) - 1 - k) 0 * (b - 1) := by
  have pos : ∀ xs : List Int, mayL b xs = true → 1 ≤ xs.length → 1 ≤ b - 1 := by
    intro xs hm hl
    match xs, hl with
    | x :: _, _ => have := mayL_iff.1 hm x (by simp); omega
  refine bulk_induction (k := k) _ (fun xs h => ⟨0, mv_off h, by omega, ?_⟩) (fun xs h h2 => ?_) (fun xs hm h h2 ih => ?_)
  · have : max ((xs.length : Int) - 1 - k) 0 = 0 := by
      simp [dueB] at h
      omega
    rw [this]
    omega
  · simp [dueB] at h
    omega
  · obtain ⟨m, hmv, m0, m1⟩ := ih
    have hlt := bulk_lt (b := b) h2
    obtain ⟨a1, a2⟩ := amt_fit hm h2
    refine ⟨m + amt b xs, by rw [mv_bulk h h2, hmv]; rfl, by omega, ?_⟩
    simp [dueB] at h
    have hb := pos xs hm (by omega)
    have e : max ((xs.length : Int) - 1 - k) 0 = ((xs.length : Int) - 2 - k) + 1 := by omega
    have le : max (((bulkL b xs).length : Int) - 1 - k) 0 ≤ (xs.length : Int) - 2 - k := by omega
    have := Int.mul_le_mul_of_nonneg_right le (by omega : 0 ≤ b - 1)
    rw [e, Int.add_mul, Int.one_mul]
    omega
theorem movesN_bound {b k : Int} (hk : 0 ≤ k) {xs : List Int} (hm : mayL b xs = true) : 0 ≤ movesN b k xs ∧ movesN b k xs ≤ max ((xs.length : Int) - 1 - k) 0 * (b - 1) := by
  obtain ⟨m, h, h0, h1⟩ := mv_bound hk xs hm
  rw [movesN, h]
  exact ⟨h0, h1⟩
theorem movesN_step {b k : Int} (hk : 0 ≤ k) {xs : List Int} (hm : mayL b xs = true) (h : dueB xs.length k = true) : movesN b k xs = movesN b k (nextL b xs) + 1 := by
  have h2 : 2 ≤ xs.length := by
    simp [dueB] at h
    omega
  obtain ⟨m, hmv, _, _⟩ := mv_bound hk (nextL b xs) (next_may hm)
  rw [movesN, movesN, mv_step hm h h2, hmv]
  rfl
/-- Where more may be open it takes no more moves. -/
theorem movesN_less {b k k' : Int} (hk : 0 ≤ k) (hkk : k ≤ k') : ∀ xs, mayL b xs = true → movesN b k' xs ≤ movesN b k xs := by
  refine bulk_induction (k := k) _ (fun xs h => ?_) (fun xs h h2 => ?_) (fun xs hm h h2 ih => ?_)
  · rw [movesN_off h, movesN_off (by simp [dueB] at h ⊢; omega)]
    exact Int.le_refl _
  · simp [dueB] at h
    omega
  · obtain ⟨m, hmv, m0, _⟩ := mv_bound hk _ (bulk_may hm h2)
    obtain ⟨a1, a2⟩ := amt_fit hm h2
    have e : movesN b k xs = movesN b k (bulkL b xs) + amt b xs := by
      rw [movesN, movesN, mv_bulk h h2, hmv]
      rfl
    cases hd : dueB xs.length k' with
    | false =>
      rw [movesN_off hd, e, movesN, hmv]
      show 0 ≤ m + amt b xs
      omega
    | true =>
      obtain ⟨m', hmv', _, _⟩ := mv_bound (k := k') (by omega) _ (bulk_may hm h2)
      have e' : movesN b k' xs = movesN b k' (bulkL b xs) + amt b xs := by
        rw [movesN, movesN, mv_bulk hd h2, hmv']
        rfl
      omega

/-! ### No block is lost -/
theorem sum_ends (b x : Int) (mid : List Int) (y : Int) : (ends b x mid y).sum = (if x = b then 0 else x) + mid.sum + y := by
  unfold ends
  by_cases h : x = b <;> by_cases k : y = 0 <;> simp [h, k] <;> omega
theorem sum_next {b x y : Int} {mid : List Int} : (x :: (mid ++ [y])).sum - (nextL b (x :: (mid ++ [y]))).sum = if x = b - 1 then b else 0 := by
  rw [nextL_eq, sum_ends]
  by_cases h : x = b - 1
  · rw [if_pos (c := x = b - 1) h, if_pos (by omega)]
    simp
    omega
  · rw [if_neg (c := x = b - 1) h, if_neg (by omega)]
    simp
    omega
/-- Counts that may be, of so few pages and blocks, have a sum that fits. -/
theorem sum_fit {b : Int} (hb : b ≤ 20) : ∀ {xs : List Int}, mayL b xs = true → 0 ≤ xs.sum ∧ xs.sum ≤ 20 * xs.length
  | [], _ => by simp
  | x :: xs, h => by
    have hx := mayL_iff.1 h x (by simp)
    have := sum_fit hb (xs := xs) (mayL_iff.2 fun z hz => mayL_iff.1 h z (by simp [hz]))
    simp only [List.sum_cons, List.length_cons]
    omega
/-- Few counts that may be. -/
structure Sm (b : Int) (xs : List Int) : Prop where
  len : xs.length ≤ 12
  blk : b ≤ 20
  may : mayL b xs = true
theorem Sm.next {b : Int} {xs : List Int} (h : Sm b xs) : Sm b (nextL b xs) := ⟨Nat.le_trans next_len h.len, h.blk, next_may h.may⟩
theorem Sm.bulk {b : Int} {xs : List Int} (h : Sm b xs) (h2 : 2 ≤ xs.length) : Sm b (bulkL b xs) := ⟨by have := bulk_lt (b := b) h2; have := h.len; omega, h.blk, bulk_may h.may h2⟩
end Go.Proofs.Ytghlngdmcfconaa
