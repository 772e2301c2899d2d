/-
  Plain lists of bytes: a part, some laid over a part ('splice'), a word out of bytes and back. No statement about a Go function.
-/
import Derived.Test.YtjnnblcafocdoaaDoorRows
import Derived.Laws.CopyOwn
namespace Go.Proofs.YtjnnblcafocdoaaDoor

/-- All of them are bytes. -/
def Byt (xs : List Int) : Prop := ∀ x ∈ xs, 0 ≤ x ∧ x ≤ 255
/-- k of them, from place o on. -/
def sub (xs : List Int) (o k : Nat) : List Int := (xs.drop o).take k

theorem length_sub (xs : List Int) (o k : Nat) (h : o + k ≤ xs.length) : (sub xs o k).length = k := by simp [sub]; omega
theorem sub_get {xs : List Int} {o k j : Nat} (hj : j < k) : (sub xs o k)[j]? = xs[o + j]? := by
  unfold sub
  rw [List.getElem?_take, if_pos hj, List.getElem?_drop]
theorem sub_all (xs : List Int) : sub xs 0 xs.length = xs := by simp [sub]
theorem sub_zero (xs : List Int) (o : Nat) : sub xs o 0 = [] := by simp [sub]
theorem Byt.sub {xs : List Int} (h : Byt xs) (o k : Nat) : Byt (sub xs o k) := fun x hx => h x (List.mem_of_mem_drop (List.mem_of_mem_take hx))
theorem Byt.take {xs : List Int} (h : Byt xs) (k : Nat) : Byt (xs.take k) := fun x hx => h x (List.mem_of_mem_take hx)
theorem Byt.get {xs : List Int} (h : Byt xs) {k : Nat} {x : Int} (hk : xs[k]? = some x) : 0 ≤ x ∧ x ≤ 255 := h x (List.mem_of_getElem? hk)
theorem Byt.nil : Byt [] := fun _ h => by cases h
theorem Byt.replicate {c : Int} (h0 : 0 ≤ c) (h1 : c ≤ 255) (n : Nat) : Byt (List.replicate n c) := fun x hx => by rw [List.eq_of_mem_replicate hx]; exact ⟨h0, h1⟩
theorem Byt.splice {xs ys : List Int} (h : Byt xs) (g : Byt ys) (o : Nat) : Byt (splice xs o ys) := by
  intro x hx
  unfold Go.splice at hx
  rcases List.mem_append.1 hx with m | m
  · exact h x (List.mem_of_mem_take m)
  · rcases List.mem_append.1 m with m | m
    · exact g x m
    · exact h x (List.mem_of_mem_drop m)
theorem Byt.set {xs : List Int} (h : Byt xs) {c : Int} (h0 : 0 ≤ c) (h1 : c ≤ 255) (k : Nat) : Byt (xs.set k c) := by
  intro x hx
  rcases List.mem_or_eq_of_mem_set hx with m | rfl
  · exact h x m
  · exact ⟨h0, h1⟩

theorem splice_get {α : Type} (L : List α) (o : Nat) (ys : List α) (h : o + ys.length ≤ L.length) (k : Nat) :
    (splice L o ys)[k]? = if k < o then L[k]? else if k < o + ys.length then ys[k - o]? else L[k]? := by
  unfold splice
  have hl : (L.take o).length = o := by rw [List.length_take]; omega
  by_cases h1 : k < o
  · rw [if_pos h1, List.getElem?_append_left (by omega), List.getElem?_take, if_pos h1]
  · rw [if_neg h1, List.getElem?_append_right (by omega), hl]
    by_cases h2 : k < o + ys.length
    · rw [if_pos h2, List.getElem?_append_left (by omega)]
    · rw [if_neg h2, List.getElem?_append_right (by omega), List.getElem?_drop]
      congr 1
      omega
theorem splice_nil {α : Type} (L : List α) (o : Nat) (h : o ≤ L.length) : splice L o [] = L := by
  apply List.ext_getElem?
  intro k
  rw [splice_get L o [] (by simpa using h)]
  split
  · rfl
  · split
    · rename_i a b; simp at b; omega
    · rfl
theorem splice_set {L ys : List Int} {o k : Nat} {y : Int} (h : o + ys.length ≤ L.length) (hy : ys[k]? = some y) : (splice L o (ys.take k)).set (o + k) y = splice L o (ys.take (k + 1)) := by
  have hk : k < ys.length := (List.getElem?_eq_some_iff.1 hy).1
  have l1 : (ys.take k).length = k := by rw [List.length_take]; omega
  have l2 : (ys.take (k + 1)).length = k + 1 := by rw [List.length_take]; omega
  apply List.ext_getElem?
  intro j
  rw [List.getElem?_set, length_splice _ _ _ (by omega), splice_get _ _ _ (by omega), splice_get _ _ _ (by omega), l1, l2]
  by_cases e : o + k = j
  · subst e
    rw [if_pos rfl, if_pos (by omega), if_neg (by omega), if_pos (by omega), List.getElem?_take, if_pos (by omega), show o + k - o = k by omega, hy]
  · rw [if_neg e]
    by_cases h1 : j < o
    · rw [if_pos h1, if_pos h1]
    · rw [if_neg h1, if_neg h1]
      by_cases h2 : j < o + k
      · rw [if_pos h2, if_pos (by omega), List.getElem?_take, if_pos (by omega), List.getElem?_take, if_pos (by omega)]
      · rw [if_neg h2, if_neg (by omega)]
theorem splice_splice {L a b : List Int} {o : Nat} (h : o + a.length + b.length ≤ L.length) : splice (splice L o a) (o + a.length) b = splice L o (a ++ b) := by
  apply List.ext_getElem?
  intro j
  rw [splice_get _ _ _ (by rw [length_splice _ _ _ (by omega)]; omega), splice_get _ _ _ (by omega), splice_get _ _ _ (by rw [List.length_append]; omega), List.length_append]
  by_cases h1 : j < o
  · rw [if_pos (by omega), if_pos h1, if_pos h1]
  · by_cases h2 : j < o + a.length
    · rw [if_pos h2, if_neg h1, if_pos h2, if_neg h1, if_pos (by omega), List.getElem?_append_left (by omega)]
    · rw [if_neg h2]
      by_cases h3 : j < o + a.length + b.length
      · rw [if_pos h3, if_neg h1, if_pos (by omega), List.getElem?_append_right (by omega)]
        congr 1
        omega
      · rw [if_neg h3, if_neg h1, if_neg h2, if_neg h1, if_neg (by omega)]
theorem sub_splice {L ys : List Int} {o : Nat} (h : o + ys.length ≤ L.length) : sub (splice L o ys) o ys.length = ys := by
  apply List.ext_getElem?
  intro j
  by_cases hj : j < ys.length
  · rw [sub_get hj, splice_get _ _ _ h, if_neg (by omega), if_pos (by omega)]
    congr 1
    omega
  · rw [List.getElem?_eq_none (by rw [length_sub _ _ _ (by rw [length_splice _ _ _ h]; exact h)]; omega), List.getElem?_eq_none (by omega)]
theorem sub_head {L ys : List Int} {o k : Nat} (h : o + ys.length ≤ L.length) (hk : k ≤ ys.length) : sub (splice L o ys) o k = ys.take k := by
  have := congrArg (List.take k) (sub_splice h)
  rw [← this]
  unfold sub
  rw [List.take_take, Nat.min_eq_left hk]

theorem splice_whole {L ys : List Int} (h : ys.length = L.length) : splice L 0 ys = ys := by
  have := sub_splice (L := L) (ys := ys) (o := 0) (by omega)
  rwa [h, ← length_splice L 0 ys (by omega), sub_all] at this
/-- A word of bytes, the least one first. -/
def wordOf : List Int → Int
  | [] => 0
  | x :: r => x + 256 * wordOf r
/-- k bytes of a word. -/
def bytesOf : Nat → Int → List Int
  | 0, _ => []
  | k + 1, w => w % 256 :: bytesOf k (w / 256)

theorem length_bytesOf : ∀ (k : Nat) (w : Int), (bytesOf k w).length = k
  | 0, _ => rfl
  | k + 1, w => by simp [bytesOf, length_bytesOf k]
theorem bytesOf_byt : ∀ (k : Nat) (w : Int), Byt (bytesOf k w)
  | 0, _ => Byt.nil
  | k + 1, w => by
    intro x hx
    rcases List.mem_cons.1 hx with rfl | m
    · omega
    · exact bytesOf_byt k _ x m
theorem bytesOf_get : ∀ (n : Nat) (w : Int) (k : Nat), k < n → (bytesOf n w)[k]? = some (w / 256 ^ k % 256)
  | 0, _, _, h => by omega
  | n + 1, w, 0, _ => by simp [bytesOf]
  | n + 1, w, k + 1, h => by
    rw [bytesOf, List.getElem?_cons_succ, bytesOf_get n _ k (by omega), Int.ediv_ediv_of_nonneg (by omega), Int.pow_succ, Int.mul_comm]
theorem wordOf_fit : ∀ {ys : List Int}, Byt ys → 0 ≤ wordOf ys ∧ wordOf ys < 256 ^ ys.length
  | [], _ => by simp [wordOf]
  | y :: r, h => by
    have h0 := h y (by simp)
    have h1 := wordOf_fit (ys := r) (fun x hx => h x (by simp [hx]))
    simp only [wordOf, List.length_cons, Int.pow_succ]
    omega
theorem wordOf_append : ∀ (a b : List Int), wordOf (a ++ b) = wordOf a + 256 ^ a.length * wordOf b
  | [], b => by simp [wordOf]
  | x :: r, b => by
    simp only [List.cons_append, wordOf, wordOf_append r b, List.length_cons, Int.pow_succ]
    rw [Int.mul_add, Int.mul_comm (256 ^ r.length) 256, Int.mul_assoc]
    omega
theorem wordOf_take {ys : List Int} {k : Nat} {y : Int} (h : ys[k]? = some y) : wordOf (ys.take (k + 1)) = wordOf (ys.take k) + 256 ^ k * y := by
  have hk : k < ys.length := (List.getElem?_eq_some_iff.1 h).1
  rw [List.take_add_one, h, wordOf_append, List.length_take, Nat.min_eq_left (by omega)]
  simp [wordOf]
theorem wordOf_drop {ys : List Int} {k : Nat} {y : Int} (h : ys[k]? = some y) : wordOf (ys.drop k) = y + 256 * wordOf (ys.drop (k + 1)) := by
  obtain ⟨hk, e⟩ := List.getElem?_eq_some_iff.1 h
  rw [List.drop_eq_getElem_cons hk, e, wordOf]
end Go.Proofs.YtjnnblcafocdoaaDoor
