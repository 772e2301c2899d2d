/-
  The plain spans of package chain: bytes from x up to e, page by page, of pages of p bytes; how many they are; cut in two. No statement about a Go function.
-/
import Derived.Test.YtpdhlnkdjcghpaaUnitNum
namespace Go.Proofs.Ytpdhlnkdjcghpaa

/-- A span: the page, its first byte there, how many. -/
structure Sp where
  n : Nat
  a : Nat
  l : Nat
/-- Where the bytes behind the page of the byte x begin, at e at the latest. -/
def nxt (p e x : Nat) : Nat := min e ((x / p + 1) * p)
/-- What the page of the byte x has of the bytes from x up to e. -/
def spn (p e x : Nat) : Sp := ⟨x / p, x % p, nxt p e x - x⟩

theorem page_of {p : Nat} (hp : 0 < p) (x : Nat) : x / p * p + x % p = x ∧ x % p < p ∧ (x / p + 1) * p = x / p * p + p := by
  have h1 := Nat.mod_add_div x p
  have h2 := Nat.mod_lt x hp
  have h3 := Nat.mul_comm p (x / p)
  have h4 := Nat.succ_mul (x / p) p
  exact ⟨by omega, h2, h4⟩
theorem nxt_gt {p e x : Nat} (hp : 0 < p) (h : x < e) : x < nxt p e x := by
  have := page_of hp x
  unfold nxt
  omega
theorem nxt_le (p e x : Nat) : nxt p e x ≤ e := Nat.min_le_left _ _
/-- The bytes from x up to e, page by page. -/
def cutL (p e x : Nat) : List Sp := if _h : 0 < p ∧ x < e then spn p e x :: cutL p e (nxt p e x) else []
termination_by e - x
decreasing_by
  have := nxt_gt _h.1 _h.2
  have := nxt_le p e x
  omega
theorem cutL_done {p e x : Nat} (h : e ≤ x) : cutL p e x = [] := by
  rw [cutL, dif_neg (by omega)]
theorem cutL_step {p e x : Nat} (hp : 0 < p) (h : x < e) : cutL p e x = spn p e x :: cutL p e (nxt p e x) := by
  rw [cutL, dif_pos ⟨hp, h⟩]
theorem cutL_nil {p e x : Nat} (hp : 0 < p) (h : cutL p e x = []) : e ≤ x := by
  rcases Nat.lt_or_ge x e with g | g
  · rw [cutL_step hp g] at h; cases h
  · exact g

/-- What is known of one span. -/
theorem spn_facts {p e x : Nat} (hp : 0 < p) (h : x < e) : (spn p e x).n * p + (spn p e x).a = x ∧ 1 ≤ (spn p e x).l ∧ (spn p e x).a + (spn p e x).l ≤ p ∧ x + (spn p e x).l = nxt p e x ∧ (spn p e x).l = min (e - x) (p - x % p) ∧ (spn p e x).n ≤ x ∧ (spn p e x).a ≤ x ∧ (spn p e x).l ≤ e := by
  obtain ⟨h1, h2, h3⟩ := page_of hp x
  have h4 := nxt_gt hp h
  have h5 := Nat.div_le_self x p
  have h6 : nxt p e x = min e (x / p * p + p) := by unfold nxt; rw [h3]
  show x / p * p + x % p = x ∧ 1 ≤ nxt p e x - x ∧ x % p + (nxt p e x - x) ≤ p ∧ x + (nxt p e x - x) = nxt p e x ∧ nxt p e x - x = min (e - x) (p - x % p) ∧ x / p ≤ x ∧ x % p ≤ x ∧ nxt p e x - x ≤ e
  omega

/-- How many spans there are. -/
theorem cutL_len {p e : Nat} (hp : 0 < p) : ∀ (k x : Nat), e - x = k → x < e → (cutL p e x).length = (e - 1) / p - x / p + 1 := by
  intro k
  induction k using Nat.strongRecOn with
  | ind k ih =>
    intro x hk hx
    obtain ⟨h1, h2, h3⟩ := page_of hp x
    obtain ⟨g1, g2, g3⟩ := page_of hp (e - 1)
    have h4 := nxt_gt hp hx
    rw [cutL_step hp hx, List.length_cons]
    by_cases hq : e ≤ (x / p + 1) * p
    · have hn : nxt p e x = e := Nat.min_eq_left hq
      have hd : (e - 1) / p = x / p := by
        refine Nat.div_eq_of_lt_le ?_ ?_
        · omega
        · omega
      rw [hn, cutL_done (Nat.le_refl _), hd]
      simp
    · have hn : nxt p e x = (x / p + 1) * p := Nat.min_eq_right (by omega)
      have hle : x / p + 1 ≤ (e - 1) / p := (Nat.le_div_iff_mul_le hp).2 (by omega)
      rw [hn] at h4 ⊢
      rw [ih _ (by omega) _ rfl (by omega), Nat.mul_div_cancel _ hp]
      omega
/-- As many as the parts that hold them, with those ahead of them on their first page. -/
theorem len_window {p e x L : Nat} (hp : 0 < p) (hx : x < e) (hL : L = (e - 1) / p - x / p + 1) : x % p + (e - x) ≤ L * p ∧ L * p < x % p + (e - x) + p := by
  obtain ⟨h1, h2, h3⟩ := page_of hp x
  obtain ⟨g1, g2, g3⟩ := page_of hp (e - 1)
  have hle : x / p ≤ (e - 1) / p := Nat.div_le_div_right (by omega)
  have e1 : L + x / p = (e - 1) / p + 1 := by omega
  have e2 : (L + x / p) * p = L * p + x / p * p := Nat.add_mul _ _ _
  rw [e1] at e2
  omega
theorem many_window {n b m : Int} (hn : 1 ≤ n) (hb : 1 ≤ b) (h1 : n ≤ m * b) (h2 : m * b < n + b) : many n b = m := by
  obtain ⟨g1, g2, g3, g4⟩ := many_facts hn hb
  have e1 := Int.sub_mul (many n b) m b
  have e2 := Int.sub_mul m (many n b) b
  rcases Int.lt_trichotomy (many n b) m with q | q | q
  · have : 1 * b ≤ (m - many n b) * b := Int.mul_le_mul_of_nonneg_right (by omega) (by omega)
    omega
  · exact q
  · have : 1 * b ≤ (many n b - m) * b := Int.mul_le_mul_of_nonneg_right (by omega) (by omega)
    omega
theorem cap_many {p e x : Nat} (hp : 0 < p) (hx : x < e) : many ((x % p : Nat) + (e - x : Nat) : Int) p = ((cutL p e x).length : Int) := by
  obtain ⟨h1, h2⟩ := len_window hp hx (cutL_len hp _ x rfl hx)
  refine many_window (by omega) (by omega) ?_ ?_
  · exact_mod_cast h1
  · exact_mod_cast h2
theorem len_many {p e x : Nat} (hp : 0 < p) (hx : x < e) : ((cutL p e x).length : Int) ≤ many ((e - x : Nat) : Int) p + 1 := by
  obtain ⟨h1, h2⟩ := len_window hp hx (cutL_len hp _ x rfl hx)
  obtain ⟨h3, h4, h5⟩ := page_of hp x
  obtain ⟨g1, g2, g3, g4⟩ := many_facts (n := ((e - x : Nat) : Int)) (b := p) (by omega) (by omega)
  obtain ⟨M, hM⟩ : ∃ M : Nat, many ((e - x : Nat) : Int) p = (M : Int) := ⟨(many ((e - x : Nat) : Int) p).toNat, by omega⟩
  rw [hM] at g3 ⊢
  have g5 : e - x ≤ M * p := by exact_mod_cast g3
  have g6 : (cutL p e x).length < M + 2 := by
    refine Nat.lt_of_mul_lt_mul_right (a := p) ?_
    rw [Nat.add_mul]
    omega
  omega
/-- No more of them than bytes. -/
theorem len_bytes {p e x : Nat} (hp : 0 < p) : (cutL p e x).length ≤ e - x := by
  rcases Nat.lt_or_ge x e with h | h
  · have h1 := cutL_len hp _ x rfl h
    obtain ⟨a1, a2, a3⟩ := page_of hp x
    obtain ⟨b1, b2, b3⟩ := page_of hp (e - 1)
    have hle : x / p ≤ (e - 1) / p := Nat.div_le_div_right (by omega)
    obtain ⟨d, hd⟩ : ∃ d, (e - 1) / p = x / p + d := ⟨(e - 1) / p - x / p, by omega⟩
    rw [hd, Nat.add_mul] at b1
    have h2 : d * 1 ≤ d * p := Nat.mul_le_mul_left d hp
    rcases Nat.eq_zero_or_pos d with h0 | h0
    · subst h0; omega
    · have h3 : d * p ≤ e - 1 - x / p * p := by omega
      by_cases h1p : p = 1
      · subst h1p; omega
      · have h4 : d * 2 ≤ d * p := Nat.mul_le_mul_left d (by omega)
        have h5 : (d - 1) * 1 ≤ (d - 1) * (p - 1) := Nat.mul_le_mul_left _ (by omega)
        have h6 : d * p = (d - 1) * (p - 1) + (d - 1) + p := by
          obtain ⟨d', rfl⟩ : ∃ d', d = d' + 1 := ⟨d - 1, by omega⟩
          obtain ⟨p', rfl⟩ : ∃ p', p = p' + 1 := ⟨p - 1, by omega⟩
          simp only [Nat.add_sub_cancel, Nat.add_mul, Nat.mul_add]
          omega
        omega
  · rw [cutL_done h]; simp
/-- Cut in two where a page begins. -/
theorem cutL_join {p m e : Nat} (hp : 0 < p) (hm : m % p = 0) (he : m ≤ e) : ∀ (k x : Nat), m - x = k → x ≤ m → cutL p m x ++ cutL p e m = cutL p e x := by
  intro k
  induction k using Nat.strongRecOn with
  | ind k ih =>
    intro x hk hx
    rcases Nat.lt_or_ge x m with h | h
    · obtain ⟨h1, h2, h3⟩ := page_of hp x
      obtain ⟨g1, g2, g3⟩ := page_of hp m
      have hle : x / p + 1 ≤ m / p := by
        refine (Nat.lt_iff_add_one_le).1 (Nat.lt_of_mul_lt_mul_right (a := p) ?_)
        omega
      have hle2 := Nat.mul_le_mul_right p hle
      have n1 : nxt p m x = (x / p + 1) * p := Nat.min_eq_right (by omega)
      have n2 : nxt p e x = (x / p + 1) * p := Nat.min_eq_right (by omega)
      rw [cutL_step hp h, cutL_step hp (Nat.lt_of_lt_of_le h he), List.cons_append, spn, spn, n1, n2]
      rw [ih _ (by omega) _ rfl (by omega)]
    · obtain rfl : x = m := by omega
      rw [cutL_done (Nat.le_refl x), List.nil_append]
/-- And where none begins, there is one more of them. -/
theorem len_two {p x m e : Nat} (hp : 0 < p) (hx : x < m) (he : m < e) (hm : ¬ m % p = 0) : (cutL p m x).length + (cutL p e m).length = (cutL p e x).length + 1 := by
  rw [cutL_len hp _ x rfl hx, cutL_len hp _ m rfl he, cutL_len hp _ x rfl (by omega)]
  have h1 : (m - 1) / p = m / p := by
    obtain ⟨g1, g2, g3⟩ := page_of hp m
    exact Nat.div_eq_of_lt_le (by omega) (by omega)
  have h2 : x / p ≤ (m - 1) / p := Nat.div_le_div_right (by omega)
  have h3 : m / p ≤ (e - 1) / p := Nat.div_le_div_right (by omega)
  omega
/-- From the spans behind the first i ones to those behind one more. -/
theorem drop_step {p e x y i : Nat} (hp : 0 < p) (h : (cutL p e x).drop i = cutL p e y) (hi : i < (cutL p e x).length) : y < e ∧ (cutL p e x)[i]? = some (spn p e y) ∧ (cutL p e x).drop (i + 1) = cutL p e (nxt p e y) := by
  have hy : y < e := by
    rcases Nat.lt_or_ge y e with g | g
    · exact g
    · rw [cutL_done g] at h
      have := congrArg List.length h
      rw [List.length_drop, List.length_nil] at this
      omega
  rw [cutL_step hp hy] at h
  refine ⟨hy, ?_, ?_⟩
  · have := congrArg (·[0]?) h
    simpa [List.getElem?_drop] using this
  · rw [← List.drop_drop, h]
    rfl

/-! ### What Data, All and Cut come to -/
def allOf (n b : Int) : Int := if many n b = 0 ∨ many n b = 9223372036854775807 then 0 else many n b + 1
def mayCut (a n p : Int) : Prop := 0 ≤ a ∧ 1 ≤ n ∧ 1 ≤ p ∧ a + n ≤ 16777216
noncomputable def cutI (a n p : Int) : List Sp := by
  classical
  exact if mayCut a n p then cutL p.toNat (a + n).toNat a.toNat else []
theorem cutI_on {A N P : Nat} (h : mayCut A N P) : cutI A N P = cutL P (A + N) A := by
  unfold cutI
  rw [if_pos h]
  congr 1
theorem cutI_off {a n p : Int} (h : ¬ mayCut a n p) : cutI a n p = [] := by
  unfold cutI
  rw [if_neg h]
end Go.Proofs.Ytpdhlnkdjcghpaa
