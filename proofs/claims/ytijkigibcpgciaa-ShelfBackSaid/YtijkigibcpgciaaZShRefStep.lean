import Derived.Test.YtijkigibcpgciaaZShRefOwn
/-
  What the document's functions on shelves append, step by step: one more number, one more row, a number ahead. No statement about a Go function.
-/
namespace Go.Proofs.Ytijkigibcpgciaa.Sh
open Go.ChangeShapes Go.WideShapes Go.ChangeAt Go.RowKit Go.Deep
set_option maxRecDepth 100000

section
variable {w : World} {P : Nat → Prop} {a : Option Addr} {n c : Nat} {l : List Int} {rs : List (Value × List Int)}
theorem belowA {B : Nat} {w w' : World} {o : Obj} (hB : B ≤ w.heap.size) (h : Below B (w.alloc o) w') : Below B w w' := ((Below.refl B w).alloc hB o).trans h
theorem alloc_size (w : World) (o : Obj) : w.heap.size ≤ (w.alloc o).heap.size := by simp
/-- 'append(append([]int{}, l...), x)'. -/
theorem numStep (h : Ip w P a n c l) (hn : n ≤ 100000) (up : Up w P) (x : Int) (hx : Pl.Fit x) : ∃ g6 c6 w6 g7 c7 w7,
    (Builtin.append_ #[31, 31] 31 #[.slice (some ⟨w.heap.size, 0, none⟩) 0 0, .slice a n c]).run Try.prog (w.alloc (.cells #[] 3)) = .ok (.slice (some ⟨g6, 0, none⟩) n c6) w6 ∧
    (Builtin.append_ #[31, 31] 31 #[.slice (some ⟨g6, 0, none⟩) n c6, .slice (some ⟨w6.heap.size, 0, none⟩) 1 1]).run Try.prog (w6.alloc (.cells #[.int .i64 x] 3)) = .ok (.slice (some ⟨g7, 0, none⟩) (n + 1) c7) w7 ∧
    Ip w7 P (some ⟨g7, 0, none⟩) (n + 1) c7 (l ++ [x]) ∧ Below w.heap.size w w7 ∧ w.heap.size ≤ g7 ∧ Below w.heap.size w w6 := by
  have hs := alloc_size w (.cells #[] 3)
  obtain ⟨g6, c6, w6, r6, o6, b6⟩ := app_ints (c := c) (xs := []) (own_empty w 3) (h.ints.on (below1 w _)) hs (by omega) 31
  rw [Nat.zero_add] at r6 o6
  rw [List.nil_append] at o6
  have hs6 := b6.size
  obtain ⟨g7, c7, w7, r7, o7, b7, _⟩ := app_one o6 (by omega) (by omega) x 31
  have bb7 : Below w.heap.size w6 w7 := Below.grown ((Below.refl _ w6).alloc (by omega) _) b7 (by simp; omega) (fun k hk => (o6.lt k hk).1)
  have hfit : ∀ y ∈ l ++ [x], -9223372036854775808 ≤ y ∧ y ≤ 9223372036854775807 := fun y hy => by
    rcases List.mem_append.1 hy with q | q
    · exact h.ints.2.2.1 y q
    · rw [List.mem_singleton.1 q]; exact hx
  obtain ⟨i7, k7⟩ := ints_own o7 (by omega) hfit
  have B6 := belowA (Nat.le_refl _) b6
  exact ⟨g6, c6, w6, g7, c7, w7, r6, r7, ⟨i7, k7, fun _ => ⟨g7, 0, rfl, up g7 (o7.lt g7 rfl).1⟩⟩, B6.trans bb7, (o7.lt g7 rfl).1, B6⟩
/-- 'append(append([][]int{}, l...), x)'. -/
theorem rowStep (h : Pp w P a n c rs) (hn : n ≤ 100000) (up : Up w P) {u : Value} {X : List Int} (hu : Row w P u X) (z : Nat) (hz : z = w.heap.size) : ∃ g6 c6 w6 g7 c7 w7,
    (Builtin.append_ #[34, 34] 34 #[.slice (some ⟨z, 0, none⟩) 0 0, .slice a n c]).run Try.prog (w.alloc (.cells #[] 31)) = .ok (.slice (some ⟨g6, 0, none⟩) n c6) w6 ∧
    (Builtin.append_ #[34, 34] 34 #[.slice (some ⟨g6, 0, none⟩) n c6, .slice (some ⟨w6.heap.size, 0, none⟩) 1 1]).run Try.prog (w6.alloc (.cells #[u] 31)) = .ok (.slice (some ⟨g7, 0, none⟩) (n + 1) c7) w7 ∧
    Pp w7 P (some ⟨g7, 0, none⟩) (n + 1) c7 (rs ++ [(u, X)]) ∧ Below w.heap.size w w7 ∧ w.heap.size ≤ g7 ∧ Below w.heap.size w w6 := by
  subst hz
  have hs := alloc_size w (.cells #[] 31)
  obtain ⟨g6, c6, w6, r6, o6, b6⟩ := app_vals (c := c) (own_empty w 31) ((h.on (below1 w _)).src) h.ones hs (by omega) 34
  rw [Nat.zero_add] at r6 o6
  rw [List.nil_append] at o6
  have hs6 := b6.size
  have src1 : Src (w6.alloc (.cells #[u] 31)) (some ⟨w6.heap.size, 0, none⟩) 1 [u] := ⟨rfl, fun _ => ⟨w6.heap.size, 0, rfl, fun j y hy => by
    match j, hy with
    | 0, hy => simp at hy; subst hy; simp⟩⟩
  obtain ⟨g7, c7, w7, r7, o7, b7⟩ := app_vals (c := 1) (o6.alloc _) src1 (fun y hy => by rw [List.mem_singleton.1 hy]; exact hu.one) (by simp; omega) (by omega) 34
  have B6 := belowA (Nat.le_refl _) b6
  have B7 := B6.trans (belowA (by omega) b7)
  obtain ⟨q1, q2, q3, q4, q5, _⟩ := own_cells o7
  refine ⟨g6, c6, w6, g7, c7, w7, r6, r7, Pp.fin (by rw [List.length_append, h.len]; rfl) q2 (fun q hq => ?_) (up g7 q3) q4 (fun k q hq => q5 k q.1 ?_), B7, q3, B6⟩
  · rcases List.mem_append.1 hq with z | z
    · exact (h.row q z).but (Below.but B7 _)
    · rw [List.mem_singleton.1 z]; exact hu.but (Below.but B7 _)
  · rw [show rs.map (·.1) ++ [u] = (rs ++ [(u, X)]).map (·.1) by rw [List.map_append]; rfl, List.getElem?_map, hq]
    rfl
/-- 'append([]int{x}, l...)'. -/
theorem aheadStep (h : Ip w P a n c l) (hn : n ≤ 100000) (up : Up w P) (x : Int) (hx : Pl.Fit x) (z : Nat) (hz : z = w.heap.size) : ∃ g7 c7 w7,
    (Builtin.append_ #[31, 31] 31 #[.slice (some ⟨z, 0, none⟩) 1 1, .slice a n c]).run Try.prog (w.alloc (.cells #[.int .i64 x] 3)) = .ok (.slice (some ⟨g7, 0, none⟩) (1 + n) c7) w7 ∧
    Ip w7 P (some ⟨g7, 0, none⟩) (1 + n) c7 (x :: l) ∧ Below w.heap.size w w7 ∧ w.heap.size ≤ g7 := by
  subst hz
  have own1 : (w.alloc (.cells #[.int .i64 x] 3)).ownsRow w.heap.size 3 1 (.slice (some ⟨w.heap.size, 0, none⟩) 1 1) 1 ([x].map (Value.int .i64)) := World.ownsRow_lit w #[.int .i64 x] 1 (Nat.le_refl _) (by unfold maxLen; omega) rfl
  obtain ⟨g7, c7, w7, r7, o7, b7⟩ := app_ints (c := c) own1 (h.ints.on (below1 w _)) (by simp) (by omega) 31
  have hfit : ∀ y ∈ [x] ++ l, -9223372036854775808 ≤ y ∧ y ≤ 9223372036854775807 := fun y hy => by
    rcases List.mem_append.1 hy with q | q
    · rw [List.mem_singleton.1 q]; exact hx
    · exact h.ints.2.2.1 y q
  obtain ⟨i7, k7⟩ := ints_own o7 (by omega) hfit
  exact ⟨g7, c7, w7, r7, ⟨i7, k7, fun _ => ⟨g7, 0, rfl, up g7 (o7.lt g7 rfl).1⟩⟩, belowA (Nat.le_refl _) b7, (o7.lt g7 rfl).1⟩
end
end Go.Proofs.Ytijkigibcpgciaa.Sh
