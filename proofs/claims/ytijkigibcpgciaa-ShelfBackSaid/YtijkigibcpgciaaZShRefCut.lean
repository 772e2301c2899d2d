import Derived.Test.YtijkigibcpgciaaZShRefTake
import Derived.Test.YtijkigibcpgciaaZShGive
/-
  Cuts of numbers and rows: what the document's Give appends. No statement about a Go function.
-/
namespace Go.Proofs.Ytijkigibcpgciaa.Sh
open Go.ChangeShapes Go.WideShapes Go.ChangeAt Go.RowKit Go.Deep
set_option maxRecDepth 100000

/-- What is left to do once, behind a region that many orders come out of. -/
theorem cutm {T G : Prop} (a : T) (b : T → G) : G := b a
/-! ### Cuts of rows -/
theorem cutR_to {b o n c k : Nat} (hk : k ≤ n) (hnc : n ≤ c) (v : World) :
    (Instr.sliceAt 34 (.slice (some ⟨b, o, none⟩) n c) none (some (.int .i64 (k : Int))) none).run Try.prog v = .ok (.slice (some ⟨b, o, none⟩) k c) v := by
  have hu : Try.prog.underlying 34 = some (.slice (Try.prog.elem 34)) := by kernel_rfl
  have hs : ∀ v, (sizeOf (Try.prog.elem 34)).run Try.prog v = .ok 1 v := fun v => by kernel_rfl
  rw [run_sliceAt_slice _ _ _ _ _ _ hu, run_slice_h _ _ _ _ _ hu _ _ (by omega) (by omega), hs]
  simp [Result.andThen, sliced, Addr.add]
theorem cutR_tail {b o n c k : Nat} (hk : k ≤ n) (hnc : n ≤ c) :
    ∃ (o' c' : Nat), n - k ≤ c' ∧ (∀ v, (Instr.sliceAt 34 (.slice (some ⟨b, o, none⟩) n c) (some (.int .i64 (k : Int))) none none).run Try.prog v = .ok (.slice (some ⟨b, o', none⟩) (n - k) c') v) ∧ (0 < n - k → o' = o + k) := by
  have hu : Try.prog.underlying 34 = some (.slice (Try.prog.elem 34)) := by kernel_rfl
  have hs : ∀ v, (sizeOf (Try.prog.elem 34)).run Try.prog v = .ok 1 v := fun v => by kernel_rfl
  have run : ∀ v, (Instr.sliceAt 34 (.slice (some ⟨b, o, none⟩) n c) (some (.int .i64 (k : Int))) none none).run Try.prog v = .ok (sliced (some ⟨b, o, none⟩) k n c 1) v := by
    intro v
    rw [run_sliceAt_slice _ _ _ _ _ _ hu, run_slice_l _ _ _ _ _ hu _ _ (by omega) (by omega), hs]
    simp [Result.andThen]
  by_cases hc : c = k
  · exact ⟨o, c - k, by omega, fun v => (run v).trans (by simp [sliced, hc]), fun q => absurd q (by omega)⟩
  · refine ⟨o + k, c - k, by omega, fun v => (run v).trans ?_, fun _ => rfl⟩
    by_cases h0 : k = 0
    · subst h0; simp [sliced, Addr.add]
    · simp [sliced, hc, Addr.add, h0]
section
variable {w : World} {P : Nat → Prop} {a : Option Addr} {n c : Nat} {l : List Int} {rs : List (Value × List Int)}
/-- 'append(append([]int{}, l[:i]...), l[i+1:]...)'. -/
theorem numCut (h : Ip w P a n c l) (hn : n ≤ 100000) (up : Up w P) {i : Nat} (hi : i < n) : ∃ b o o' c' g6 c6 w6 g7 c7 w7, a = some ⟨b, o, none⟩ ∧
    (∀ v, (Instr.sliceAt 31 (.slice (some ⟨b, o, none⟩) n c) none (some (.int .i64 (i : Int))) none).run Try.prog v = .ok (.slice (some ⟨b, o, none⟩) i c) v) ∧
    (∀ v, (Instr.sliceAt 31 (.slice (some ⟨b, o, none⟩) n c) (some (.int .i64 ((i + 1 : Nat) : Int))) none none).run Try.prog v = .ok (.slice (some ⟨b, o', none⟩) (n - (i + 1)) c') v) ∧
    (Builtin.append_ #[31, 31] 31 #[.slice (some ⟨w.heap.size, 0, none⟩) 0 0, .slice (some ⟨b, o, none⟩) i c]).run Try.prog (w.alloc (.cells #[] 3)) = .ok (.slice (some ⟨g6, 0, none⟩) i c6) w6 ∧
    (Builtin.append_ #[31, 31] 31 #[.slice (some ⟨g6, 0, none⟩) i c6, .slice (some ⟨b, o', none⟩) (n - (i + 1)) c']).run Try.prog w6 = .ok (.slice (some ⟨g7, 0, none⟩) (n - 1) c7) w7 ∧
    Ip w7 P (some ⟨g7, 0, none⟩) (n - 1) c7 (l.eraseIdx i) ∧ Below w.heap.size w w7 ∧ Below w.heap.size w w6 ∧ w.heap.size ≤ g7 := by
  obtain ⟨b, o, e, _, _⟩ := h.ints.head (by omega)
  subst e
  have hs := alloc_size w (.cells #[] 3)
  obtain ⟨g6, c6, w6, r6, o6, b6⟩ := app_ints (c := c) (xs := []) (own_empty w 3) ((h.ints.on (below1 w _)).take (k := i) (by omega)) hs (by omega) 31
  rw [Nat.zero_add] at r6 o6
  rw [List.nil_append] at o6
  have B6 := belowA (Nat.le_refl _) b6
  obtain ⟨o', c', _, hcut, hti⟩ := cut_tail (c := c) h.ints (k := i + 1) (by omega) h.cap
  obtain ⟨g7, c7, w7, r7, o7, b7⟩ := app_ints (c := c') o6 (hti.on B6) B6.size (by omega) 31
  rw [show i + (n - (i + 1)) = n - 1 by omega] at r7 o7
  rw [show l.take i ++ l.drop (i + 1) = l.eraseIdx i from (List.eraseIdx_eq_take_drop_succ l i).symm] at o7
  have hfit : ∀ y ∈ l.eraseIdx i, -9223372036854775808 ≤ y ∧ y ≤ 9223372036854775807 := fun y hy => h.ints.2.2.1 y (List.mem_of_mem_eraseIdx hy)
  obtain ⟨i7, k7⟩ := ints_own o7 (by omega) hfit
  exact ⟨b, o, o', c', g6, c6, w6, g7, c7, w7, rfl, cut_to (by omega) h.cap, hcut, r6, r7, ⟨i7, k7, fun _ => ⟨g7, 0, rfl, up g7 (o7.lt g7 rfl).1⟩⟩, B6.trans b7, B6, (o7.lt g7 rfl).1⟩
/-- 'append(append([][]int{}, l[:i]...), l[i+1:]...)'. -/
theorem rowCut (h : Pp w P a n c rs) (hn : n ≤ 100000) (up : Up w P) {i : Nat} (hi : i < n) (z : Nat) (hz : z = w.heap.size) : ∃ b o o' c' g6 c6 w6 g7 c7 w7, a = some ⟨b, o, none⟩ ∧
    (∀ v, (Instr.sliceAt 34 (.slice (some ⟨b, o, none⟩) n c) none (some (.int .i64 (i : Int))) none).run Try.prog v = .ok (.slice (some ⟨b, o, none⟩) i c) v) ∧
    (∀ v, (Instr.sliceAt 34 (.slice (some ⟨b, o, none⟩) n c) (some (.int .i64 ((i + 1 : Nat) : Int))) none none).run Try.prog v = .ok (.slice (some ⟨b, o', none⟩) (n - (i + 1)) c') v) ∧
    (Builtin.append_ #[34, 34] 34 #[.slice (some ⟨z, 0, none⟩) 0 0, .slice (some ⟨b, o, none⟩) i c]).run Try.prog (w.alloc (.cells #[] 31)) = .ok (.slice (some ⟨g6, 0, none⟩) i c6) w6 ∧
    (Builtin.append_ #[34, 34] 34 #[.slice (some ⟨g6, 0, none⟩) i c6, .slice (some ⟨b, o', none⟩) (n - (i + 1)) c']).run Try.prog w6 = .ok (.slice (some ⟨g7, 0, none⟩) (n - 1) c7) w7 ∧
    Pp w7 P (some ⟨g7, 0, none⟩) (n - 1) c7 (rs.eraseIdx i) ∧ Below w.heap.size w w7 ∧ Below w.heap.size w w6 ∧ w.heap.size ≤ g7 := by
  subst hz
  obtain ⟨b, o, e, pb, hbl, hc⟩ := h.blk (by omega)
  subst e
  have hs := alloc_size w (.cells #[] 31)
  have hsrc := h.src
  have src1 : Src (w.alloc (.cells #[] 31)) (some ⟨b, o, none⟩) i ((rs.take i).map (·.1)) := ⟨by rw [List.length_map, List.length_take, h.len]; omega, fun _ => ⟨b, o, rfl, fun j u hu => by
    rw [List.getElem?_map] at hu
    cases hr : (rs.take i)[j]? with
    | none => rw [hr] at hu; cases hu
    | some q =>
      rw [hr] at hu
      simp at hu
      rw [← hu]
      rw [List.getElem?_take] at hr
      split at hr
      · exact (World.cell?_alloc_lt w _ ⟨b, o + j, none⟩ hbl).trans (hc j q hr)
      · cases hr⟩⟩
  have ones : ∀ (l : List (Value × List Int)), (∀ q ∈ l, q ∈ rs) → ∀ u ∈ l.map (·.1), u.oneCell' = true := fun l hl u hu => by
    obtain ⟨q, hq, rfl⟩ := List.mem_map.1 hu
    exact (h.row q (hl q hq)).one
  obtain ⟨g6, c6, w6, r6, o6, b6⟩ := app_vals (c := c) (own_empty w 31) src1 (ones _ fun q hq => List.mem_of_mem_take hq) hs (by omega) 34
  rw [Nat.zero_add] at r6 o6
  rw [List.nil_append] at o6
  have B6 := belowA (Nat.le_refl _) b6
  obtain ⟨o', c', _, hcut, ho'⟩ := cutR_tail (b := b) (o := o) (n := n) (c := c) (k := i + 1) (by omega) h.cap
  have src2 : Src w6 (some ⟨b, o', none⟩) (n - (i + 1)) ((rs.drop (i + 1)).map (·.1)) := ⟨by rw [List.length_map, List.length_drop, h.len], fun q0 => ⟨b, o', rfl, fun j u hu => by
    rw [List.getElem?_map, List.getElem?_drop] at hu
    cases hr : rs[i + 1 + j]? with
    | none => rw [hr] at hu; cases hu
    | some q =>
      rw [hr] at hu
      simp at hu
      rw [← hu, ho' q0, Nat.add_assoc]
      exact (B6.cell (p := ⟨b, o + (i + 1 + j), none⟩) hbl).trans (hc _ q hr)⟩⟩
  obtain ⟨g7, c7, w7, r7, o7, b7⟩ := app_vals (c := c') o6 src2 (ones _ fun q hq => List.mem_of_mem_drop hq) B6.size (by omega) 34
  rw [show i + (n - (i + 1)) = n - 1 by omega] at r7 o7
  rw [← List.map_append, show rs.take i ++ rs.drop (i + 1) = rs.eraseIdx i from (List.eraseIdx_eq_take_drop_succ rs i).symm] at o7
  have B7 := B6.trans b7
  obtain ⟨q1, q2, q3, q4, q5, _⟩ := own_cells o7
  refine ⟨b, o, o', c', g6, c6, w6, g7, c7, w7, rfl, cutR_to (by omega) h.cap, hcut, r6, r7, Pp.fin (by rwa [List.length_map] at q1) q2 (fun q hq => (h.row q (List.mem_of_mem_eraseIdx hq)).but (Below.but B7 _)) (up g7 q3) q4 (fun k q hq => q5 k q.1 (by rw [List.getElem?_map, hq]; rfl)), B7, B6, q3⟩
end
end Go.Proofs.Ytijkigibcpgciaa.Sh
