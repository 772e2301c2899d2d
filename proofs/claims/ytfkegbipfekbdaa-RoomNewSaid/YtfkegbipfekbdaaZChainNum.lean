import Derived.Test.YtfkegbipfekbdaaZClassNum
import Derived.Test.YtfkegbipfekbdaaZPgBitsNum
/-
  The plain answers of package conf as functions of numbers and lists: sizeB, large, keepB, confB, sizeAt, blocks, small; and what follows of them. No statement about a Go function.
-/
namespace Go.Proofs.Ytfkegbipfekbdaa
open Go.RowKit

/-- A layout: its numbers, its two slices, and the lists that they read as. -/
structure Cf where
  size : Int
  pages : Int
  ca : Option Addr
  cn : Nat
  cc : Nat
  ka : Option Addr
  kn : Nat
  kc : Nat
  step : Int
  slots : Int
  gens : Int
  most : Int
  xs : List Int
  ks : List Int

def Fit (n : Int) : Prop := -9223372036854775808 ≤ n ∧ n ≤ 9223372036854775807

/-- The layout's slices read as its lists, and its numbers are ints of 64 bits. -/
structure Cf.Ok (w : World) (B : Nat) (c : Cf) : Prop where
  classes : Ints w B c.ca c.cn c.xs
  keep : Ints w B c.ka c.kn c.ks
  size : Fit c.size
  pages : Fit c.pages
  step : Fit c.step
  slots : Fit c.slots
  gens : Fit c.gens
  most : Fit c.most

section
variable {w w' : World} {B B' : Nat} {c : Cf}
theorem Cf.Ok.stay (h : c.Ok w B) (hk : ∀ p : Addr, p.block < B → w'.cell? p = w.cell? p) : c.Ok w' B := { h with classes := h.classes.keep hk, keep := h.keep.keep hk }
theorem Cf.Ok.more (h : c.Ok w B) (hB : B ≤ B') : c.Ok w B' := { h with classes := h.classes.more hB, keep := h.keep.more hB }
theorem Cf.Ok.below (h : c.Ok w B) (hb : Below B w w') : c.Ok w' B := h.stay fun _ hp => hb.cell hp
theorem Cf.Ok.on (h : c.Ok w w.heap.size) (hb : Below w.heap.size w w') : c.Ok w' w'.heap.size := (h.below hb).more hb.size
theorem Cf.Ok.drewN (h : c.Ok w B) (k : Nat) : c.Ok (w.drewN k) B := { h with classes := h.classes.drewN k, keep := h.keep.drewN k }
theorem Cf.Ok.drew (h : c.Ok w B) : c.Ok w.drew B := { h with classes := h.classes.drew, keep := h.keep.drew }
theorem Cf.Ok.alloc (h : c.Ok w B) (hB : B ≤ w.heap.size) (o : Obj) : c.Ok (w.alloc o) B := { h with classes := h.classes.alloc hB o, keep := h.keep.alloc hB o }
end

/-! ### Sizes of pages -/
def inB (n lo hi : Int) : Bool := decide (lo ≤ n) && decide (n ≤ hi)
theorem inB_true {n lo hi : Int} : inB n lo hi = true ↔ lo ≤ n ∧ n ≤ hi := by simp [inB]
theorem inB_low {n lo hi : Int} (h : n < lo) : inB n lo hi = false := by simp [inB]; omega
theorem inB_high {n lo hi : Int} (h : hi < n) : inB n lo hi = false := by simp [inB]; omega
theorem inB_not {n lo hi : Int} (h : lo ≤ n) : inB n lo hi = !decide (hi < n) := by
  by_cases c : hi < n
  · rw [inB_high c]; simp [c]
  · rw [inB_true.2 ⟨h, by omega⟩]; simp [c]
def sizeB (s : Int) : Bool := inB s 64 4096 && (s % 8 == 0)
theorem sizeB_true {s : Int} : sizeB s = true ↔ 64 ≤ s ∧ s ≤ 4096 ∧ s % 8 = 0 := by simp [sizeB, inB, and_assoc]
def large (s : Int) : Int := if sizeB s = true then s * s / 8 else 0
theorem large_off {s : Int} (h : sizeB s = false) : large s = 0 := by simp [large, h]
theorem large_on {s : Int} (h : sizeB s = true) : large s = s * s / 8 := by simp [large, h]
/-- Size by size words: eight times the quotient is the size. -/
theorem large_words {s : Int} (h : sizeB s = true) : large s = s * (s / 8) := by
  rw [large_on h]
  obtain ⟨_, _, h3⟩ := sizeB_true.1 h
  have e : s = 8 * (s / 8) := by omega
  have e2 : s * s = 8 * (s * (s / 8)) := by
    calc s * s = s * (8 * (s / 8)) := by rw [← e]
      _ = 8 * (s * (s / 8)) := by rw [← Int.mul_assoc, Int.mul_comm s 8, Int.mul_assoc]
  rw [e2, Int.mul_ediv_cancel_left _ (by omega)]
theorem square_bounds {s : Int} (h1 : 64 ≤ s) (h2 : s ≤ 4096) : 4096 ≤ s * s ∧ s * s ≤ 16777216 := by
  have a : 64 * 64 ≤ s * s := Int.mul_le_mul h1 h1 (by omega) (by omega)
  have b : s * s ≤ 4096 * 4096 := Int.mul_le_mul h2 h2 (by omega) (by omega)
  omega
theorem words_bounds {s : Int} (h1 : 64 ≤ s) (h2 : s ≤ 4096) : 512 ≤ s * (s / 8) ∧ s * (s / 8) ≤ 2097152 := by
  have a : 64 * 8 ≤ s * (s / 8) := Int.mul_le_mul h1 (by omega) (by omega) (by omega)
  have b : s * (s / 8) ≤ 4096 * 512 := Int.mul_le_mul h2 (by omega) (by omega) (by omega)
  omega
theorem large_bounds (s : Int) : 0 ≤ large s ∧ large s ≤ 2097152 := by
  cases h : sizeB s with
  | false => rw [large_off h]; omega
  | true =>
    obtain ⟨h1, h2, _⟩ := sizeB_true.1 h
    have := words_bounds h1 h2
    rw [large_words h]; omega
theorem large_pos {s : Int} (h : sizeB s = true) : 512 ≤ large s := by
  obtain ⟨h1, h2, _⟩ := sizeB_true.1 h
  have := words_bounds h1 h2
  rw [large_words h]; omega

/-! ### What may stay open -/
def keepB (ks : List Int) (n : Nat) : Bool := (ks.length == n) && ks.all fun x => inB x 0 1024
/-- The first k are as they may be. -/
def KeptTo (ks : List Int) (k : Nat) : Prop := ∀ (j : Nat) (s : Int), j < k → ks[j]? = some s → inB s 0 1024 = true
theorem KeptTo.zero (ks : List Int) : KeptTo ks 0 := fun _ _ h => absurd h (by omega)
theorem KeptTo.next {ks : List Int} {k : Nat} {s : Int} (h : KeptTo ks k) (hk : ks[k]? = some s) (hs : inB s 0 1024 = true) : KeptTo ks (k + 1) := by
  intro j t hj ht
  by_cases e : j = k
  · subst e; rw [hk] at ht; injection ht with ht; rw [← ht]; exact hs
  · exact h j t (by omega) ht
theorem keepB_len {ks : List Int} {n : Nat} (h : ks.length ≠ n) : keepB ks n = false := by simp [keepB, h]
theorem keepB_bad {ks : List Int} {n k : Nat} {s : Int} (hk : ks[k]? = some s) (hs : inB s 0 1024 = false) : keepB ks n = false := by
  have hm := List.mem_of_getElem? hk
  have : ks.all (fun x => inB x 0 1024) = false := by
    rw [List.all_eq_false]; exact ⟨s, hm, by simp [hs]⟩
  simp [keepB, this]
theorem keepB_done {ks : List Int} {n : Nat} (hn : ks.length = n) (h : KeptTo ks n) : keepB ks n = true := by
  have : ks.all (fun x => inB x 0 1024) = true := by
    rw [List.all_eq_true]; intro x hx
    obtain ⟨j, hj, e⟩ := List.mem_iff_getElem.1 hx
    exact h j x (by omega) (by rw [List.getElem?_eq_getElem hj, e])
  simp [keepB, hn, this]
theorem keepB_true {ks : List Int} {n : Nat} (h : keepB ks n = true) : ks.length = n ∧ ∀ (j : Nat) (s : Int), ks[j]? = some s → 0 ≤ s ∧ s ≤ 1024 := by
  simp only [keepB, Bool.and_eq_true, beq_iff_eq, List.all_eq_true] at h
  exact ⟨h.1, fun j s hs => inB_true.1 (h.2 s (List.mem_of_getElem? hs))⟩

/-! ### Whether a heap may be -/
def confB (c : Cf) : Bool :=
  sizeB c.size && (inB c.pages 1 1024 && (mayB c.xs c.size && (keepB c.ks c.cn && (inB c.step 1 65536 && (inB c.slots 1 4096 && (inB c.gens 1 1023 && inB c.most 1 (large c.size)))))))
def confMay (c : Cf) : Int := if confB c = true then 0 else 1
theorem may_eq (xs : List Int) (g : Int) : (may xs g == 0) = mayB xs g := by unfold may; cases mayB xs g <;> rfl
theorem confMay_01 (c : Cf) : confMay c = 0 ∨ confMay c = 1 := by unfold confMay; split <;> simp
theorem confMay_on {c : Cf} (h : confB c = true) : confMay c = 0 := by simp [confMay, h]
theorem confMay_off {c : Cf} (h : confB c = false) : confMay c = 1 := by simp [confMay, h]
theorem confB_of {c : Cf} (h : confMay c = 0) : confB c = true := by
  unfold confMay at h; split at h
  · assumption
  · omega

/-! ### Blocks -/
def sizeAt (xs : List Int) (k : Int) : Int := if k < 0 then 0 else (xs[k.toNat]?).getD 0
theorem sizeAt_neg {xs : List Int} {k : Int} (h : k < 0) : sizeAt xs k = 0 := if_pos h
theorem sizeAt_far {xs : List Int} {k : Int} (h : (xs.length : Int) ≤ k) : sizeAt xs k = 0 := by
  unfold sizeAt; split
  · rfl
  · rw [List.getElem?_eq_none (by omega)]; rfl
theorem sizeAt_at {xs : List Int} {k : Nat} {s : Int} (h : xs[k]? = some s) : sizeAt xs (k : Int) = s := by
  unfold sizeAt; rw [if_neg (by omega), Int.toNat_natCast, h]; rfl
def blocks (c : Cf) (k : Int) : Int := whole c.size (sizeAt c.xs k)
def small (c : Cf) : Int := sizeAt c.xs ((c.xs.length : Int) - 1)
theorem sizeAt_fit {w : World} {B n : Nat} {a : Option Addr} {xs : List Int} (h : Ints w B a n xs) (k : Int) : Fit (sizeAt xs k) := by
  unfold sizeAt; split
  · unfold Fit; omega
  · cases e : xs[k.toNat]? with
    | none => simp [Fit]
    | some s => exact h.fit e
end Go.Proofs.Ytfkegbipfekbdaa
/-
  The plain spans of package chain: bytes from x up to e, page by page, of pages of p bytes; how many they are; cut in two. No statement about a Go function.
-/
namespace Go.Proofs.Ytfkegbipfekbdaa

/-- A span: the page, its first byte there, how many. -/
structure Sp where
  n : Nat
  a : Nat
  l : Nat
/-- Where the bytes behind the page of the byte x begin, at e at the latest. -/
def nxt (p e x : Nat) : Nat := min e ((x / p + 1) * p)
/-- What the page of the byte x has of the bytes from x up to e. -/
def spn (p e x : Nat) : Sp := ⟨x / p, x % p, nxt p e x - x⟩

theorem page_of {p : Nat} (hp : 0 < p) (x : Nat) : x / p * p + x % p = x ∧ x % p < p ∧ (x / p + 1) * p = x / p * p + p := by
  have h1 := Nat.mod_add_div x p
  have h2 := Nat.mod_lt x hp
  have h3 := Nat.mul_comm p (x / p)
  have h4 := Nat.succ_mul (x / p) p
  exact ⟨by omega, h2, h4⟩
theorem nxt_gt {p e x : Nat} (hp : 0 < p) (h : x < e) : x < nxt p e x := by
  have := page_of hp x
  unfold nxt
  omega
theorem nxt_le (p e x : Nat) : nxt p e x ≤ e := Nat.min_le_left _ _
/-- The bytes from x up to e, page by page. -/
def cutL (p e x : Nat) : List Sp := if _h : 0 < p ∧ x < e then spn p e x :: cutL p e (nxt p e x) else []
termination_by e - x
decreasing_by
  have := nxt_gt _h.1 _h.2
  have := nxt_le p e x
  omega
theorem cutL_done {p e x : Nat} (h : e ≤ x) : cutL p e x = [] := by
  rw [cutL, dif_neg (by omega)]
theorem cutL_step {p e x : Nat} (hp : 0 < p) (h : x < e) : cutL p e x = spn p e x :: cutL p e (nxt p e x) := by
  rw [cutL, dif_pos ⟨hp, h⟩]
theorem cutL_nil {p e x : Nat} (hp : 0 < p) (h : cutL p e x = []) : e ≤ x := by
  rcases Nat.lt_or_ge x e with g | g
  · rw [cutL_step hp g] at h; cases h
  · exact g

/-- What is known of one span. -/
theorem spn_facts {p e x : Nat} (hp : 0 < p) (h : x < e) : (spn p e x).n * p + (spn p e x).a = x ∧ 1 ≤ (spn p e x).l ∧ (spn p e x).a + (spn p e x).l ≤ p ∧ x + (spn p e x).l = nxt p e x ∧ (spn p e x).l = min (e - x) (p - x % p) ∧ (spn p e x).n ≤ x ∧ (spn p e x).a ≤ x ∧ (spn p e x).l ≤ e := by
  obtain ⟨h1, h2, h3⟩ := page_of hp x
  have h4 := nxt_gt hp h
  have h5 := Nat.div_le_self x p
  have h6 : nxt p e x = min e (x / p * p + p) := by unfold nxt; rw [h3]
  show x / p * p + x % p = x ∧ 1 ≤ nxt p e x - x ∧ x % p + (nxt p e x - x) ≤ p ∧ x + (nxt p e x - x) = nxt p e x ∧ nxt p e x - x = min (e - x) (p - x % p) ∧ x / p ≤ x ∧ x % p ≤ x ∧ nxt p e x - x ≤ e
  omega

/-- How many spans there are. -/
theorem cutL_len {p e : Nat} (hp : 0 < p) : ∀ (k x : Nat), e - x = k → x < e → (cutL p e x).length = (e - 1) / p - x / p + 1 := by
  intro k
  induction k using Nat.strongRecOn with
  | ind k ih =>
    intro x hk hx
    obtain ⟨h1, h2, h3⟩ := page_of hp x
    obtain ⟨g1, g2, g3⟩ := page_of hp (e - 1)
    have h4 := nxt_gt hp hx
    rw [cutL_step hp hx, List.length_cons]
    by_cases hq : e ≤ (x / p + 1) * p
    · have hn : nxt p e x = e := Nat.min_eq_left hq
      have hd : (e - 1) / p = x / p := by
        refine Nat.div_eq_of_lt_le ?_ ?_
        · omega
        · omega
      rw [hn, cutL_done (Nat.le_refl _), hd]
      simp
    · have hn : nxt p e x = (x / p + 1) * p := Nat.min_eq_right (by omega)
      have hle : x / p + 1 ≤ (e - 1) / p := (Nat.le_div_iff_mul_le hp).2 (by omega)
      rw [hn] at h4 ⊢
      rw [ih _ (by omega) _ rfl (by omega), Nat.mul_div_cancel _ hp]
      omega
/-- As many as the parts that hold them, with those ahead of them on their first page. -/
theorem len_window {p e x L : Nat} (hp : 0 < p) (hx : x < e) (hL : L = (e - 1) / p - x / p + 1) : x % p + (e - x) ≤ L * p ∧ L * p < x % p + (e - x) + p := by
  obtain ⟨h1, h2, h3⟩ := page_of hp x
  obtain ⟨g1, g2, g3⟩ := page_of hp (e - 1)
  have hle : x / p ≤ (e - 1) / p := Nat.div_le_div_right (by omega)
  have e1 : L + x / p = (e - 1) / p + 1 := by omega
  have e2 : (L + x / p) * p = L * p + x / p * p := Nat.add_mul _ _ _
  rw [e1] at e2
  omega
theorem many_window {n b m : Int} (hn : 1 ≤ n) (hb : 1 ≤ b) (h1 : n ≤ m * b) (h2 : m * b < n + b) : many n b = m := by
  obtain ⟨g1, g2, g3, g4⟩ := many_facts hn hb
  have e1 := Int.sub_mul (many n b) m b
  have e2 := Int.sub_mul m (many n b) b
  rcases Int.lt_trichotomy (many n b) m with q | q | q
  · have : 1 * b ≤ (m - many n b) * b := Int.mul_le_mul_of_nonneg_right (by omega) (by omega)
    omega
  · exact q
  · have : 1 * b ≤ (many n b - m) * b := Int.mul_le_mul_of_nonneg_right (by omega) (by omega)
    omega
theorem cap_many {p e x : Nat} (hp : 0 < p) (hx : x < e) : many ((x % p : Nat) + (e - x : Nat) : Int) p = ((cutL p e x).length : Int) := by
  obtain ⟨h1, h2⟩ := len_window hp hx (cutL_len hp _ x rfl hx)
  refine many_window (by omega) (by omega) ?_ ?_
  · exact_mod_cast h1
  · exact_mod_cast h2
theorem len_many {p e x : Nat} (hp : 0 < p) (hx : x < e) : ((cutL p e x).length : Int) ≤ many ((e - x : Nat) : Int) p + 1 := by
  obtain ⟨h1, h2⟩ := len_window hp hx (cutL_len hp _ x rfl hx)
  obtain ⟨h3, h4, h5⟩ := page_of hp x
  obtain ⟨g1, g2, g3, g4⟩ := many_facts (n := ((e - x : Nat) : Int)) (b := p) (by omega) (by omega)
  obtain ⟨M, hM⟩ : ∃ M : Nat, many ((e - x : Nat) : Int) p = (M : Int) := ⟨(many ((e - x : Nat) : Int) p).toNat, by omega⟩
  rw [hM] at g3 ⊢
  have g5 : e - x ≤ M * p := by exact_mod_cast g3
  have g6 : (cutL p e x).length < M + 2 := by
    refine Nat.lt_of_mul_lt_mul_right (a := p) ?_
    rw [Nat.add_mul]
    omega
  omega
/-- No more of them than bytes. -/
theorem len_bytes {p e x : Nat} (hp : 0 < p) : (cutL p e x).length ≤ e - x := by
  rcases Nat.lt_or_ge x e with h | h
  · have h1 := cutL_len hp _ x rfl h
    obtain ⟨a1, a2, a3⟩ := page_of hp x
    obtain ⟨b1, b2, b3⟩ := page_of hp (e - 1)
    have hle : x / p ≤ (e - 1) / p := Nat.div_le_div_right (by omega)
    obtain ⟨d, hd⟩ : ∃ d, (e - 1) / p = x / p + d := ⟨(e - 1) / p - x / p, by omega⟩
    rw [hd, Nat.add_mul] at b1
    have h2 : d * 1 ≤ d * p := Nat.mul_le_mul_left d hp
    rcases Nat.eq_zero_or_pos d with h0 | h0
    · subst h0; omega
    · have h3 : d * p ≤ e - 1 - x / p * p := by omega
      by_cases h1p : p = 1
      · subst h1p; omega
      · have h4 : d * 2 ≤ d * p := Nat.mul_le_mul_left d (by omega)
        have h5 : (d - 1) * 1 ≤ (d - 1) * (p - 1) := Nat.mul_le_mul_left _ (by omega)
        have h6 : d * p = (d - 1) * (p - 1) + (d - 1) + p := by
          obtain ⟨d', rfl⟩ : ∃ d', d = d' + 1 := ⟨d - 1, by omega⟩
          obtain ⟨p', rfl⟩ : ∃ p', p = p' + 1 := ⟨p - 1, by omega⟩
          simp only [Nat.add_sub_cancel, Nat.add_mul, Nat.mul_add]
          omega
        omega
  · rw [cutL_done h]; simp
/-- Cut in two where a page begins. -/
theorem cutL_join {p m e : Nat} (hp : 0 < p) (hm : m % p = 0) (he : m ≤ e) : ∀ (k x : Nat), m - x = k → x ≤ m → cutL p m x ++ cutL p e m = cutL p e x := by
  intro k
  induction k using Nat.strongRecOn with
  | ind k ih =>
    intro x hk hx
    rcases Nat.lt_or_ge x m with h | h
    · obtain ⟨h1, h2, h3⟩ := page_of hp x
      obtain ⟨g1, g2, g3⟩ := page_of hp m
      have hle : x / p + 1 ≤ m / p := by
        refine (Nat.lt_iff_add_one_le).1 (Nat.lt_of_mul_lt_mul_right (a := p) ?_)
        omega
      have hle2 := Nat.mul_le_mul_right p hle
      have n1 : nxt p m x = (x / p + 1) * p := Nat.min_eq_right (by omega)
      have n2 : nxt p e x = (x / p + 1) * p := Nat.min_eq_right (by omega)
      rw [cutL_step hp h, cutL_step hp (Nat.lt_of_lt_of_le h he), List.cons_append, spn, spn, n1, n2]
      rw [ih _ (by omega) _ rfl (by omega)]
    · obtain rfl : x = m := by omega
      rw [cutL_done (Nat.le_refl x), List.nil_append]
/-- And where none begins, there is one more of them. -/
theorem len_two {p x m e : Nat} (hp : 0 < p) (hx : x < m) (he : m < e) (hm : ¬ m % p = 0) : (cutL p m x).length + (cutL p e m).length = (cutL p e x).length + 1 := by
  rw [cutL_len hp _ x rfl hx, cutL_len hp _ m rfl he, cutL_len hp _ x rfl (by omega)]
  have h1 : (m - 1) / p = m / p := by
    obtain ⟨g1, g2, g3⟩ := page_of hp m
    exact Nat.div_eq_of_lt_le (by omega) (by omega)
  have h2 : x / p ≤ (m - 1) / p := Nat.div_le_div_right (by omega)
  have h3 : m / p ≤ (e - 1) / p := Nat.div_le_div_right (by omega)
  omega
/-- From the spans behind the first i ones to those behind one more. -/
theorem drop_step {p e x y i : Nat} (hp : 0 < p) (h : (cutL p e x).drop i = cutL p e y) (hi : i < (cutL p e x).length) : y < e ∧ (cutL p e x)[i]? = some (spn p e y) ∧ (cutL p e x).drop (i + 1) = cutL p e (nxt p e y) := by
  have hy : y < e := by
    rcases Nat.lt_or_ge y e with g | g
    · exact g
    · rw [cutL_done g] at h
      have := congrArg List.length h
      rw [List.length_drop, List.length_nil] at this
      omega
  rw [cutL_step hp hy] at h
  refine ⟨hy, ?_, ?_⟩
  · have := congrArg (·[0]?) h
    simpa [List.getElem?_drop] using this
  · rw [← List.drop_drop, h]
    rfl

/-! ### What Data, All and Cut come to -/
def allOf (n b : Int) : Int := if many n b = 0 ∨ many n b = 9223372036854775807 then 0 else many n b + 1
def mayCut (a n p : Int) : Prop := 0 ≤ a ∧ 1 ≤ n ∧ 1 ≤ p ∧ a + n ≤ 16777216
noncomputable def cutI (a n p : Int) : List Sp := by
  classical
  exact if mayCut a n p then cutL p.toNat (a + n).toNat a.toNat else []
theorem cutI_on {A N P : Nat} (h : mayCut A N P) : cutI A N P = cutL P (A + N) A := by
  unfold cutI
  rw [if_pos h]
  congr 1
theorem cutI_off {a n p : Int} (h : ¬ mayCut a n p) : cutI a n p = [] := by
  unfold cutI
  rw [if_neg h]
end Go.Proofs.Ytfkegbipfekbdaa
