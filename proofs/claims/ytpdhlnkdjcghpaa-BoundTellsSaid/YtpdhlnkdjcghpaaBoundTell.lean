/-
  Sums of package bound of ints that are written out, and what is told of a thing, by its kind.
-/
import Derived.Test.YtpdhlnkdjcghpaaBoundWhat
namespace Go.Proofs.Ytpdhlnkdjcghpaa
open Go.ChangeShapes Go.WideShapes Go.ChangeAt Go.RowKit

/-- Numbers that are written out, together. -/
theorem tog2 (a b : Int) (w : World) (g : Nat) (hg : w.heap.size = g) (h : 0 ≤ a ∧ a ≤ 100000000000000 ∧ 0 ≤ b ∧ b ≤ 100000000000000) :
    Calls Try.prog 20 #[.slice (some ⟨g, 0, none⟩) 2 2] (w.alloc (.cells #[.int .i64 a, .int .i64 b] 3)) (R1 (a + b) (w.alloc (.cells #[.int .i64 a, .int .i64 b] 3))) := by
  subst hg
  have H := together_lit [a, b] #[.int .i64 a, .int .i64 b] 3 2 w rfl rfl (by omega) (by intro x hx; simp at hx; omega)
  rwa [show [a, b].sum = a + b by simp] at H
theorem tog3 (a b d : Int) (w : World) (g : Nat) (hg : w.heap.size = g) (h : 0 ≤ a ∧ a ≤ 100000000000000 ∧ 0 ≤ b ∧ b ≤ 100000000000000 ∧ 0 ≤ d ∧ d ≤ 100000000000000) :
    Calls Try.prog 20 #[.slice (some ⟨g, 0, none⟩) 3 3] (w.alloc (.cells #[.int .i64 a, .int .i64 b, .int .i64 d] 3)) (R1 (a + b + d) (w.alloc (.cells #[.int .i64 a, .int .i64 b, .int .i64 d] 3))) := by
  subst hg
  have H := together_lit [a, b, d] #[.int .i64 a, .int .i64 b, .int .i64 d] 3 3 w rfl rfl (by omega) (by intro x hx; simp at hx; omega)
  rwa [show [a, b, d].sum = a + b + d by simp; omega] at H
theorem tog4 (a b d e : Int) (w : World) (g : Nat) (hg : w.heap.size = g) (h : 0 ≤ a ∧ a ≤ 100000000000000 ∧ 0 ≤ b ∧ b ≤ 100000000000000 ∧ 0 ≤ d ∧ d ≤ 100000000000000 ∧ 0 ≤ e ∧ e ≤ 100000000000000) :
    Calls Try.prog 20 #[.slice (some ⟨g, 0, none⟩) 4 4] (w.alloc (.cells #[.int .i64 a, .int .i64 b, .int .i64 d, .int .i64 e] 3)) (R1 (a + b + d + e) (w.alloc (.cells #[.int .i64 a, .int .i64 b, .int .i64 d, .int .i64 e] 3))) := by
  subst hg
  have H := together_lit [a, b, d, e] #[.int .i64 a, .int .i64 b, .int .i64 d, .int .i64 e] 3 4 w rfl rfl (by omega) (by intro x hx; simp at hx; omega)
  rwa [show [a, b, d, e].sum = a + b + d + e by simp; omega] at H
theorem tog6 (a b d e i j : Int) (w : World) (g : Nat) (hg : w.heap.size = g) (h : 0 ≤ a ∧ a ≤ 100000000000000 ∧ 0 ≤ b ∧ b ≤ 100000000000000 ∧ 0 ≤ d ∧ d ≤ 100000000000000 ∧ 0 ≤ e ∧ e ≤ 100000000000000 ∧ 0 ≤ i ∧ i ≤ 100000000000000 ∧ 0 ≤ j ∧ j ≤ 100000000000000) :
    Calls Try.prog 20 #[.slice (some ⟨g, 0, none⟩) 6 6] (w.alloc (.cells #[.int .i64 a, .int .i64 b, .int .i64 d, .int .i64 e, .int .i64 i, .int .i64 j] 3)) (R1 (a + b + d + e + i + j) (w.alloc (.cells #[.int .i64 a, .int .i64 b, .int .i64 d, .int .i64 e, .int .i64 i, .int .i64 j] 3))) := by
  subst hg
  have H := together_lit [a, b, d, e, i, j] #[.int .i64 a, .int .i64 b, .int .i64 d, .int .i64 e, .int .i64 i, .int .i64 j] 3 6 w rfl rfl (by omega) (by intro x hx; simp at hx; omega)
  rwa [show [a, b, d, e, i, j].sum = a + b + d + e + i + j by simp; omega] at H
/-- What is told of a thing: its kind, and its numbers. -/
theorem what_ways (c : Cf) (s : Int) (w : World) (hc : c.Ok w w.heap.size) (M : MayC c) (hs : Fit s) :
    (isT c s = false ∧ Calls Try.prog 19 #[(.agg #[.int .i64 c.size, .int .i64 c.pages, .slice c.ca c.cn c.cc, .slice c.ka c.kn c.kc, .int .i64 c.step, .int .i64 c.slots, .int .i64 c.gens, .int .i64 c.most]), .int .i64 s] w (ThEnd 0 0 0 0 w)) ∨
    (isT c s = true ∧ s ≤ small c ∧ Calls Try.prog 19 #[(.agg #[.int .i64 c.size, .int .i64 c.pages, .slice c.ca c.cn c.cc, .slice c.ka c.kn c.kc, .int .i64 c.step, .int .i64 c.slots, .int .i64 c.gens, .int .i64 c.most]), .int .i64 s] w (ThEnd 1 (blockOf c s) 0 0 w)) ∨
    (isT c s = true ∧ ¬ s ≤ small c ∧ Calls Try.prog 19 #[(.agg #[.int .i64 c.size, .int .i64 c.pages, .slice c.ca c.cn c.cc, .slice c.ka c.kn c.kc, .int .i64 c.step, .int .i64 c.slots, .int .i64 c.gens, .int .i64 c.most]), .int .i64 s] w (ThEnd 2 0 (allOf s c.size) (many s c.size) w)) := by
  cases ht : isT c s with
  | false => exact .inl ⟨rfl, what_none c s w ht⟩
  | true =>
    by_cases h : s ≤ small c
    · exact .inr (.inl ⟨rfl, h, what_small c s w hc M ht h⟩)
    · exact .inr (.inr ⟨rfl, h, what_large c s w hc ht h hs.2⟩)

/-- The same, behind a draw. -/
theorem tog2d (a b : Int) (w : World) (g : Nat) (hg : w.heap.size = g) (h : 0 ≤ a ∧ a ≤ 100000000000000 ∧ 0 ≤ b ∧ b ≤ 100000000000000) :
    Calls Try.prog 20 #[.slice (some ⟨g, 0, none⟩) 2 2] (w.alloc (.cells #[.int .i64 a, .int .i64 b] 3)).drew (R1 (a + b) (w.alloc (.cells #[.int .i64 a, .int .i64 b] 3)).drew) := tog2 a b w.drew g hg h
theorem tog3d (a b d : Int) (w : World) (g : Nat) (hg : w.heap.size = g) (h : 0 ≤ a ∧ a ≤ 100000000000000 ∧ 0 ≤ b ∧ b ≤ 100000000000000 ∧ 0 ≤ d ∧ d ≤ 100000000000000) :
    Calls Try.prog 20 #[.slice (some ⟨g, 0, none⟩) 3 3] (w.alloc (.cells #[.int .i64 a, .int .i64 b, .int .i64 d] 3)).drew (R1 (a + b + d) (w.alloc (.cells #[.int .i64 a, .int .i64 b, .int .i64 d] 3)).drew) := tog3 a b d w.drew g hg h
theorem tog4d (a b d e : Int) (w : World) (g : Nat) (hg : w.heap.size = g) (h : 0 ≤ a ∧ a ≤ 100000000000000 ∧ 0 ≤ b ∧ b ≤ 100000000000000 ∧ 0 ≤ d ∧ d ≤ 100000000000000 ∧ 0 ≤ e ∧ e ≤ 100000000000000) :
    Calls Try.prog 20 #[.slice (some ⟨g, 0, none⟩) 4 4] (w.alloc (.cells #[.int .i64 a, .int .i64 b, .int .i64 d, .int .i64 e] 3)).drew (R1 (a + b + d + e) (w.alloc (.cells #[.int .i64 a, .int .i64 b, .int .i64 d, .int .i64 e] 3)).drew) := tog4 a b d e w.drew g hg h
theorem tog6d (a b d e i j : Int) (w : World) (g : Nat) (hg : w.heap.size = g) (h : 0 ≤ a ∧ a ≤ 100000000000000 ∧ 0 ≤ b ∧ b ≤ 100000000000000 ∧ 0 ≤ d ∧ d ≤ 100000000000000 ∧ 0 ≤ e ∧ e ≤ 100000000000000 ∧ 0 ≤ i ∧ i ≤ 100000000000000 ∧ 0 ≤ j ∧ j ≤ 100000000000000) :
    Calls Try.prog 20 #[.slice (some ⟨g, 0, none⟩) 6 6] (w.alloc (.cells #[.int .i64 a, .int .i64 b, .int .i64 d, .int .i64 e, .int .i64 i, .int .i64 j] 3)).drew (R1 (a + b + d + e + i + j) (w.alloc (.cells #[.int .i64 a, .int .i64 b, .int .i64 d, .int .i64 e, .int .i64 i, .int .i64 j] 3)).drew) := tog6 a b d e i j w.drew g hg h
end Go.Proofs.Ytpdhlnkdjcghpaa
