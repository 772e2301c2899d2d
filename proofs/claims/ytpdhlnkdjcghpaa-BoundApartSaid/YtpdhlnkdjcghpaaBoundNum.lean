/-
  The plain numbers of package bound: how many steps an operation may take; how great they are, and of what of a layout they hang. No statement about a Go function.
-/
import Derived.Test.YtpdhlnkdjcghpaaNeedNum
namespace Go.Proofs.Ytpdhlnkdjcghpaa
open Go.RowKit

/-- A small thing's block. -/
def blockOf (c : Cf) (s : Int) : Int := sizeAt c.xs (pick c.xs s)
def allocB (c : Cf) (s : Int) : Int := if isT c s = true then (if s ≤ small c then 9 + blockOf c s else 2 + 4 * allOf s c.size + (2 + c.size) * many s c.size) else 0
def freeB (c : Cf) (s : Int) : Int := if isT c s = true then (if s ≤ small c then 27 + blockOf c s + min (blockOf c s) c.step else 3 + 4 * allOf s c.size + many s c.size) else 0
/-- Has a thing of that size so many bytes? -/
def hasB (c : Cf) (s n : Int) : Bool := isT c s && (decide (0 ≤ n) && decide (n ≤ s))
def readB (c : Cf) (s n : Int) : Int := if hasB c s n = true then (if s ≤ small c then 1 + n else 1 + n + many n c.size + 1) else 0
def writeB (c : Cf) (s n : Int) : Int := if hasB c s n = true then readB c s n + n else 0
def resizeB (c : Cf) (o s : Int) : Int := if (isT c o && isT c s) = true then allocB c s + freeB c o + 3 * o + many o c.size + many s c.size + 4 else 0
def tickB (c : Cf) : Int := c.step + 10 * c.cn
section
variable {c : Cf} {s n : Int}
theorem alloc_none (h : isT c s = false) : allocB c s = 0 := if_neg (by rw [h]; simp)
theorem alloc_small (h : isT c s = true) (hs : s ≤ small c) : allocB c s = 9 + blockOf c s := by unfold allocB; rw [if_pos h, if_pos hs]
theorem alloc_large (h : isT c s = true) (hs : ¬ s ≤ small c) : allocB c s = 2 + 4 * allOf s c.size + (2 + c.size) * many s c.size := by unfold allocB; rw [if_pos h, if_neg hs]
theorem free_none (h : isT c s = false) : freeB c s = 0 := if_neg (by rw [h]; simp)
theorem free_small (h : isT c s = true) (hs : s ≤ small c) : freeB c s = 27 + blockOf c s + min (blockOf c s) c.step := by unfold freeB; rw [if_pos h, if_pos hs]
theorem free_large (h : isT c s = true) (hs : ¬ s ≤ small c) : freeB c s = 3 + 4 * allOf s c.size + many s c.size := by unfold freeB; rw [if_pos h, if_neg hs]
theorem hasB_true : hasB c s n = true ↔ isT c s = true ∧ 0 ≤ n ∧ n ≤ s := by simp [hasB]
theorem read_none (h : hasB c s n = false) : readB c s n = 0 := if_neg (by rw [h]; simp)
theorem read_small (h : hasB c s n = true) (hs : s ≤ small c) : readB c s n = 1 + n := by unfold readB; rw [if_pos h, if_pos hs]
theorem read_large (h : hasB c s n = true) (hs : ¬ s ≤ small c) : readB c s n = 1 + n + many n c.size + 1 := by unfold readB; rw [if_pos h, if_neg hs]
theorem write_none (h : hasB c s n = false) : writeB c s n = 0 := if_neg (by rw [h]; simp)
theorem write_some (h : hasB c s n = true) : writeB c s n = readB c s n + n := if_pos h
/-- A small thing's class, and its block. -/
theorem MayC.block (h : MayC c) (ht : isT c s = true) (hs : s ≤ Proofs.Ytpdhlnkdjcghpaa.small c) : ∃ (k : Nat) (b : Int), k < c.xs.length ∧ pick c.xs s = (k : Int) ∧ c.xs[k]? = some b ∧ blockOf c s = b ∧ s ≤ b ∧ 8 ≤ b ∧ b ≤ 4096 := by
  obtain ⟨k, hk, hp⟩ := h.pick_small (isT_true.1 ht).1 hs
  have hb : c.xs[k]? = some (c.xs[k]'hk) := List.getElem?_eq_getElem hk
  obtain ⟨a1, _, a3, _⟩ := okFrom_all c.xs 0 h.rise _ _ hb
  have hl := h.large
  refine ⟨k, _, hk, hp, hb, ?_, ?_, a1, by omega⟩
  · unfold blockOf
    rw [hp, sizeAt_at hb]
  · rcases pick_ways c.xs s with ⟨_, g⟩ | ⟨_, g, _⟩ | ⟨j, t, _, _, g, hj, hm, _⟩
    · omega
    · omega
    · have e : j = k := by omega
      subst e
      rw [hb] at hj
      injection hj with hj
      omega
/-- How great a large thing's numbers are. -/
theorem MayC.wide (h : MayC c) (ht : isT c s = true) : 0 ≤ many s c.size ∧ many s c.size ≤ 2097152 ∧ 0 ≤ allOf s c.size ∧ allOf s c.size ≤ 2097153 ∧ 0 ≤ (2 + c.size) * many s c.size ∧ (2 + c.size) * many s c.size ≤ 8594128896 := by
  obtain ⟨t1, t2⟩ := isT_true.1 ht
  obtain ⟨l1, l2, l3⟩ := h.large
  have hm := many_bounds (x := s) (p := c.size) (by omega) (by omega)
  have ha : 0 ≤ allOf s c.size ∧ allOf s c.size ≤ 2097153 := by
    unfold allOf
    split <;> omega
  have q1 : 0 ≤ (2 + c.size) * many s c.size := Int.mul_nonneg (by omega) hm.1
  have q2 : (2 + c.size) * many s c.size ≤ 4098 * 2097152 := Int.mul_le_mul (by omega) (by omega) hm.1 (by omega)
  omega
theorem alloc_in (h : MayC c) : 0 ≤ allocB c s ∧ allocB c s ≤ 9000000000 := by
  cases ht : isT c s with
  | false => rw [alloc_none ht]; omega
  | true =>
    by_cases hs : s ≤ small c
    · obtain ⟨_, b, _, _, _, e, _, b1, b2⟩ := h.block ht hs
      rw [alloc_small ht hs, e]; omega
    · have := h.wide ht
      rw [alloc_large ht hs]; omega
theorem free_in (h : MayC c) : 0 ≤ freeB c s ∧ freeB c s ≤ 9000000000 := by
  have hst := h.step
  cases ht : isT c s with
  | false => rw [free_none ht]; omega
  | true =>
    by_cases hs : s ≤ small c
    · obtain ⟨_, b, _, _, _, e, _, b1, b2⟩ := h.block ht hs
      rw [free_small ht hs, e]; omega
    · have := h.wide ht
      rw [free_large ht hs]; omega
theorem read_in (h : MayC c) : 0 ≤ readB c s n ∧ readB c s n ≤ 9000000000 := by
  cases hh : hasB c s n with
  | false => rw [read_none hh]; omega
  | true =>
    obtain ⟨ht, n1, n2⟩ := hasB_true.1 hh
    obtain ⟨t1, t2⟩ := isT_true.1 ht
    obtain ⟨l1, l2, l3⟩ := h.large
    by_cases hs : s ≤ small c
    · rw [read_small hh hs]; omega
    · have := many_bounds (x := n) (p := c.size) n1 (by omega)
      rw [read_large hh hs]; omega
theorem tick_in (h : MayC c) (hn : c.cn = c.xs.length) : 0 ≤ tickB c ∧ tickB c ≤ 100000 := by
  have := h.step
  have := h.few
  unfold tickB
  omega
end
/-- P18.5: with other pages, slots, generations, and with something else that may stay open, they are the same. -/
def likeC (c d : Cf) : Cf := { c with pages := d.pages, slots := d.slots, gens := d.gens, ka := d.ka, kn := d.kn, kc := d.kc, ks := d.ks }
theorem like_alloc (c d : Cf) (s : Int) : allocB (likeC c d) s = allocB c s := rfl
theorem like_free (c d : Cf) (s : Int) : freeB (likeC c d) s = freeB c s := rfl
theorem like_read (c d : Cf) (s n : Int) : readB (likeC c d) s n = readB c s n := rfl
theorem like_write (c d : Cf) (s n : Int) : writeB (likeC c d) s n = writeB c s n := rfl
theorem like_resize (c d : Cf) (s n : Int) : resizeB (likeC c d) s n = resizeB c s n := rfl
theorem like_tick (c d : Cf) : tickB (likeC c d) = tickB c := rfl
end Go.Proofs.Ytpdhlnkdjcghpaa
