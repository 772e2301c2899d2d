/-
  Cuts of any slice of ints, nil let in, and a new list out of two others. No statement about a Go function.
-/
import Derived.Test.YtkcdehnpkephgaaIntsApp
namespace Go.Proofs.Ytkcdehnpkephgaa
open Go.ChangeShapes Go.WideShapes Go.ChangeAt Go.RowKit Go.Deep

section
variable {w : World} {B n c k : Nat} {a : Option Addr} {xs : List Int}
/-- 'l[:k]', whatever l. -/
theorem cut_hi_any (h : Ints w B a n xs) (hk : k ≤ n) (hnc : n ≤ c) :
    ∃ (a' : Option Addr) (c' : Nat), k ≤ c' ∧ (∀ v, (Instr.sliceAt 22 (.slice a n c) none (some (.int .i64 (k : Int))) none).run Try.prog v = .ok (.slice a' k c') v) ∧ Ints w B a' k (xs.take k) := by
  have hu : Try.prog.underlying 22 = some (.slice (Try.prog.elem 22)) := by kernel_rfl
  have hs : ∀ v, (sizeOf (Try.prog.elem 22)).run Try.prog v = .ok 1 v := fun v => by kernel_rfl
  have run : ∀ v, (Instr.sliceAt 22 (.slice a n c) none (some (.int .i64 (k : Int))) none).run Try.prog v = .ok (sliced a 0 k c 1) v := by
    intro v
    rw [run_sliceAt_slice _ _ _ _ _ _ hu, run_slice_h _ _ _ _ _ hu _ _ (by omega) (by omega), hs]
    simp [Result.andThen]
  refine ⟨if c = 0 then a else a.map (·.add (0 * 1)), c, by omega, fun v => (run v).trans (by simp [sliced]), ?_⟩
  by_cases h0 : k = 0
  · subst h0
    exact ⟨by simp, by omega, fun x hx => by simp at hx, fun q => absurd q (by omega)⟩
  · obtain ⟨b, o, rfl, hb, hc⟩ := h.head (by omega)
    have e : (if c = 0 then some (⟨b, o, none⟩ : Addr) else (some (⟨b, o, none⟩ : Addr)).map (·.add (0 * 1))) = some ⟨b, o, none⟩ := by simp [Addr.add]
    rw [e]
    exact h.take hk
/-- 'l[k:]', whatever l. -/
theorem cut_lo_any (h : Ints w B a n xs) (hk : k ≤ n) (hnc : n ≤ c) :
    ∃ (a' : Option Addr) (c' : Nat), n - k ≤ c' ∧ (∀ v, (Instr.sliceAt 22 (.slice a n c) (some (.int .i64 (k : Int))) none none).run Try.prog v = .ok (.slice a' (n - k) c') v) ∧ Ints w B a' (n - k) (xs.drop k) := by
  by_cases h0 : n = k
  · have hu : Try.prog.underlying 22 = some (.slice (Try.prog.elem 22)) := by kernel_rfl
    have hs : ∀ v, (sizeOf (Try.prog.elem 22)).run Try.prog v = .ok 1 v := fun v => by kernel_rfl
    have run : ∀ v, (Instr.sliceAt 22 (.slice a n c) (some (.int .i64 (k : Int))) none none).run Try.prog v = .ok (sliced a k n c 1) v := by
      intro v
      rw [run_sliceAt_slice _ _ _ _ _ _ hu, run_slice_l _ _ _ _ _ hu _ _ (by omega) (by omega), hs]
      simp [Result.andThen]
    refine ⟨_, _, by omega, fun v => (run v).trans rfl, ⟨?_, by omega, fun x hx => h.2.2.1 x (List.mem_of_mem_drop hx), fun q => absurd q (by omega)⟩⟩
    rw [List.length_drop, h.len]
  · obtain ⟨b, o, rfl, hb, hc⟩ := h.head (by omega)
    exact cut_from h hk hnc
end
theorem own_none (w : World) : (w.alloc (.cells #[] 3)).ownsRow w.heap.size 3 1 (.slice (some ⟨w.heap.size, 0, none⟩) 0 0) 0 (([] : List Int).map (Value.int .i64)) :=
  World.ownsRow_lit w #[] 0 (Nat.le_refl _) (by unfold maxLen; omega) rfl
/-- 'append(append([]int{}, x...), y...)'. -/
theorem app_two {w : World} {a1 a2 : Option Addr} {n1 n2 k1 k2 : Nat} {x1 x2 : List Int} (h1 : Ints w w.heap.size a1 n1 x1) (h2 : Ints w w.heap.size a2 n2 x2) (hm : n1 + n2 ≤ 1000000) :
    ∃ g1 c1 w1 g2 c2 w2,
      (Builtin.append_ #[22, 22] 22 #[.slice (some ⟨w.heap.size, 0, none⟩) 0 0, .slice a1 n1 k1]).run Try.prog (w.alloc (.cells #[] 3)) = .ok (.slice (some ⟨g1, 0, none⟩) n1 c1) w1 ∧
      (Builtin.append_ #[22, 22] 22 #[.slice (some ⟨g1, 0, none⟩) n1 c1, .slice a2 n2 k2]).run Try.prog w1 = .ok (.slice (some ⟨g2, 0, none⟩) (n1 + n2) c2) w2 ∧
      Ints w2 w2.heap.size (some ⟨g2, 0, none⟩) (n1 + n2) (x1 ++ x2) ∧ Below w.heap.size w w2 := by
  obtain ⟨g1, c1, w1, r1, o1, b1⟩ := app_ints (c := k1) (xs := []) (own_none w) (h1.on (below1 w _)) (by simp) (by omega) 22
  rw [Nat.zero_add] at r1 o1
  rw [List.nil_append] at o1
  have B1 : Below w.heap.size w w1 := (below1 w _).trans b1
  obtain ⟨g2, c2, w2, r2, o2, b2⟩ := app_ints (c := k2) o1 (h2.on B1) B1.size hm 22
  have hfit : ∀ y ∈ x1 ++ x2, -9223372036854775808 ≤ y ∧ y ≤ 9223372036854775807 := fun y hy => by
    rcases List.mem_append.1 hy with q | q
    · exact h1.2.2.1 y q
    · exact h2.2.2.1 y q
  exact ⟨g1, c1, w1, g2, c2, w2, r1, r2, (ints_own o2 (by omega) hfit).1, B1.trans b2⟩

/-- An append to a row of the call's own turns no block that was there, but the row's. -/
theorem app_ints_but {w : World} {base g n cap m c : Nat} {xs ys : List Int} {al : Option Addr} (hown : w.ownsRow base 3 1 (.slice (some ⟨g, 0, none⟩) n cap) n (xs.map (Value.int .i64))) (hy : Ints w w.heap.size al m ys) (hb : base ≤ w.heap.size) (hm : n + m ≤ 1000000) (ty : TypeId) :
    ∃ g' cap' w', (Builtin.append_ #[22, 22] ty #[.slice (some ⟨g, 0, none⟩) n cap, .slice al m c]).run Try.prog w = .ok (.slice (some ⟨g', 0, none⟩) (n + m) cap') w' ∧
      w'.ownsRow base 3 1 (.slice (some ⟨g', 0, none⟩) (n + m) cap') (n + m) ((xs ++ ys).map (Value.int .i64)) ∧ But (· = g) w w' := by
  obtain ⟨i0, hi, hz0, hz1, hz2⟩ := info_parts infoInt
  have hcap : n ≤ cap := by
    rcases hown.2 with ⟨e, _⟩ | ⟨g', cap', cur, hv, _, _, hc, _⟩
    · cases e
    · injection hv with _ _ e3
      omega
  by_cases h0 : al = none
  · subst h0
    have hm0 : m = 0 := by
      rcases Nat.eq_zero_or_pos m with e | e
      · exact e
      · obtain ⟨b, o, e, _⟩ := hy.head e
        cases e
    have hys : ys = [] := List.length_eq_zero_iff.1 (by rw [hy.len]; exact hm0)
    subst hm0 hys
    refine ⟨g, cap, w, run_append_none w _ n cap c ty hcap, ?_, But.refl (· = g) w⟩
    rw [List.append_nil, Nat.add_zero]
    exact hown
  · obtain ⟨ad, rfl⟩ : ∃ ad, al = some ad := by
      cases al with
      | none => exact absurd rfl h0
      | some ad => exact ⟨ad, rfl⟩
    obtain ⟨v', w', hr, h2, h3, _, h5⟩ := run_append_own_at (P := Try.prog) w base 22 ty 3 i0 (.int .i64 0) 1 8 Try.underlying22 hi hz0 hz1 hz2 rfl Nat.one_pos (.slice (some ⟨g, 0, none⟩) n cap) n (xs.map (Value.int .i64)) hown ad m c (ys.map (Value.int .i64)) (by simp [hy.len])
      (fun j u hu => by
        have hj : j < ys.length := by have := (List.getElem?_eq_some_iff.1 hu).1; simpa using this
        obtain ⟨b, o, e, _, _⟩ := hy.head (by have := hy.len; omega)
        cases e
        exact newsOf hy j u hu)
      (fun u hu => by obtain ⟨x, _, rfl⟩ := List.mem_map.1 hu; rfl) (by unfold maxLen; omega) (by omega) hb
    rw [← List.map_append] at h2
    have hv : ∃ g' cap', v' = .slice (some ⟨g', 0, none⟩) (n + m) cap' := by
      rcases h2.2 with ⟨e, _⟩ | ⟨g', cap', _, hv, _⟩
      · subst e
        rcases h5 with h5 | h5 <;> simp [Value.ownBlock] at h5
      · exact ⟨g', cap', hv⟩
    obtain ⟨g', cap', rfl⟩ := hv
    exact ⟨g', cap', w', hr, h2, ⟨h3.os, h3.tape, h3.output, h3.size, fun k hk hn => h3.block k hk (fun e => hn (by simp [Value.ownBlock] at e; omega))⟩⟩
theorem ownsRow_on {w w' : World} {base n : Nat} {e : TypeId} {size : Nat} {v : Value} {xs : List Value} (h : w.ownsRow base e size v n xs) (hb : Below w.heap.size w w') : w'.ownsRow base e size v n xs :=
  h.kept (row := none) ⟨hb.os, hb.tape, hb.output, hb.size, fun k hk _ => hb.block k hk⟩ (by cases v.ownBlock <;> simp)
theorem one_int (w : World) (x : Int) (hx : -9223372036854775808 ≤ x ∧ x ≤ 9223372036854775807) : Ints (w.alloc (.cells #[.int .i64 x] 3)) (w.alloc (.cells #[.int .i64 x] 3)).heap.size (some ⟨w.heap.size, 0, none⟩) 1 [x] := by
  refine ⟨rfl, by omega, fun y hy => by rw [List.mem_singleton.1 hy]; exact hx, fun _ => ⟨w.heap.size, 0, rfl, by simp, fun k s hs => ?_⟩⟩
  match k, hs with
  | 0, hs => simp at hs; subst hs; simp
section
variable {w : World} {a : Option Addr} {n k : Nat} {l : List Int} {x : Int}
theorem fit_onto (h : Ints w w.heap.size a n l) (hx : -9223372036854775808 ≤ x ∧ x ≤ 9223372036854775807) : ∀ y ∈ l ++ [x], -9223372036854775808 ≤ y ∧ y ≤ 9223372036854775807 := fun y hy => by
  rcases List.mem_append.1 hy with q | q
  · exact h.2.2.1 y q
  · rw [List.mem_singleton.1 q]; exact hx
/-- 'append(append([]int{}, l...), x)', the one int made last. -/
theorem onto_last (h : Ints w w.heap.size a n l) (hx : -9223372036854775808 ≤ x ∧ x ≤ 9223372036854775807) (hm : n ≤ 1000) :
    ∃ g1 c1 w1 g2 c2 w2,
      (Builtin.append_ #[22, 22] 22 #[.slice (some ⟨w.heap.size, 0, none⟩) 0 0, .slice a n k]).run Try.prog (w.alloc (.cells #[] 3)) = .ok (.slice (some ⟨g1, 0, none⟩) n c1) w1 ∧
      (Builtin.append_ #[22, 22] 22 #[.slice (some ⟨g1, 0, none⟩) n c1, .slice (some ⟨w1.heap.size, 0, none⟩) 1 1]).run Try.prog (w1.alloc (.cells #[.int .i64 x] 3)) = .ok (.slice (some ⟨g2, 0, none⟩) (n + 1) c2) w2 ∧
      Ints w2 w2.heap.size (some ⟨g2, 0, none⟩) (n + 1) (l ++ [x]) ∧ Below w.heap.size w w1 ∧ Below w.heap.size w w2 := by
  obtain ⟨g1, c1, w1, r1, o1, b1⟩ := app_ints (c := k) (xs := []) (own_none w) (h.on (below1 w _)) (by simp) (by omega) 22
  rw [Nat.zero_add] at r1 o1
  rw [List.nil_append] at o1
  have B1 : Below w.heap.size w w1 := (below1 w _).trans b1
  obtain ⟨g2, c2, w2, r2, o2, b2⟩ := app_ints (c := 1) (o1.alloc (.cells #[.int .i64 x] 3)) (one_int w1 x hx) (Nat.le_trans B1.size (below1 w1 _).size) (by omega) 22
  have B2 : Below w.heap.size w w2 := (B1.alloc B1.size _).trans b2
  exact ⟨g1, c1, w1, g2, c2, w2, r1, r2, (ints_own o2 (by omega) (fit_onto h hx)).1, B1, B2⟩
/-- The same, the one int made ahead of the first append. -/
theorem onto_mid (h : Ints w w.heap.size a n l) (hx : -9223372036854775808 ≤ x ∧ x ≤ 9223372036854775807) (hm : n ≤ 1000) :
    ∃ g1 c1 w1 g2 c2 w2,
      (Builtin.append_ #[22, 22] 22 #[.slice (some ⟨w.heap.size, 0, none⟩) 0 0, .slice a n k]).run Try.prog ((w.alloc (.cells #[] 3)).alloc (.cells #[.int .i64 x] 3)) = .ok (.slice (some ⟨g1, 0, none⟩) n c1) w1 ∧
      (Builtin.append_ #[22, 22] 22 #[.slice (some ⟨g1, 0, none⟩) n c1, .slice (some ⟨w.heap.size + 1, 0, none⟩) 1 1]).run Try.prog w1 = .ok (.slice (some ⟨g2, 0, none⟩) (n + 1) c2) w2 ∧
      Ints w2 w2.heap.size (some ⟨g2, 0, none⟩) (n + 1) (l ++ [x]) ∧ Below w.heap.size w w1 ∧ Below w.heap.size w w2 := by
  have hs : (w.alloc (.cells #[] 3)).heap.size = w.heap.size + 1 := by simp
  have hI := one_int (w.alloc (.cells #[] 3)) x hx
  rw [hs] at hI
  obtain ⟨g1, c1, w1, r1, o1, b1⟩ := app_ints_but (c := k) (xs := []) ((own_none w).alloc (.cells #[.int .i64 x] 3)) (h.on (below2 w _ _)) (by simp; omega) (by omega) 22
  rw [Nat.zero_add] at r1 o1
  rw [List.nil_append] at o1
  have B1 : Below w.heap.size w w1 := (below2 w _ _).trans (b1.one (by simp; omega) (Nat.le_refl _))
  have hI1 : Ints w1 w1.heap.size (some ⟨w.heap.size + 1, 0, none⟩) 1 [x] := (hI.butAt b1 (Nat.le_refl _) (by omega)).more b1.size
  obtain ⟨g2, c2, w2, r2, o2, b2⟩ := app_ints (c := 1) o1 hI1 B1.size (by omega) 22
  exact ⟨g1, c1, w1, g2, c2, w2, r1, r2, (ints_own o2 (by omega) (fit_onto h hx)).1, B1, B1.trans b2⟩
/-- The same, the one int made first. -/
theorem onto_first (h : Ints w w.heap.size a n l) (hx : -9223372036854775808 ≤ x ∧ x ≤ 9223372036854775807) (hm : n ≤ 1000) :
    ∃ g1 c1 w1 g2 c2 w2,
      (Builtin.append_ #[22, 22] 22 #[.slice (some ⟨w.heap.size + 1, 0, none⟩) 0 0, .slice a n k]).run Try.prog ((w.alloc (.cells #[.int .i64 x] 3)).alloc (.cells #[] 3)) = .ok (.slice (some ⟨g1, 0, none⟩) n c1) w1 ∧
      (Builtin.append_ #[22, 22] 22 #[.slice (some ⟨g1, 0, none⟩) n c1, .slice (some ⟨w.heap.size, 0, none⟩) 1 1]).run Try.prog w1 = .ok (.slice (some ⟨g2, 0, none⟩) (n + 1) c2) w2 ∧
      Ints w2 w2.heap.size (some ⟨g2, 0, none⟩) (n + 1) (l ++ [x]) ∧ Below w.heap.size w w1 ∧ Below w.heap.size w w2 := by
  have hs : (w.alloc (.cells #[.int .i64 x] 3)).heap.size = w.heap.size + 1 := by simp
  have hI := one_int w x hx
  have own0 := own_none (w.alloc (.cells #[.int .i64 x] 3))
  rw [hs] at own0
  obtain ⟨g1, c1, w1, r1, o1, b1⟩ := app_ints (c := k) (xs := []) own0 (h.on (below2 w _ _)) (by simp) (by omega) 22
  rw [Nat.zero_add] at r1 o1
  rw [List.nil_append] at o1
  have B0 : Below (w.heap.size + 1) (w.alloc (.cells #[.int .i64 x] 3)) w1 := by
    have := below1 (w.alloc (.cells #[.int .i64 x] 3)) (.cells #[] 3)
    rw [hs] at this
    exact this.trans b1
  have B1 : Below w.heap.size w w1 := (below1 w _).trans (B0.mono (by omega))
  have hI1 : Ints w1 w1.heap.size (some ⟨w.heap.size, 0, none⟩) 1 [x] := by
    rw [hs] at hI
    exact (hI.below B0).more (by have := B0.size; rw [hs] at this; exact this)
  obtain ⟨g2, c2, w2, r2, o2, b2⟩ := app_ints (c := 1) o1 hI1 (by have := B0.size; rw [hs] at this; exact this) (by omega) 22
  exact ⟨g1, c1, w1, g2, c2, w2, r1, r2, (ints_own o2 (by omega) (fit_onto h hx)).1, B1, B1.trans (b2.mono (by omega))⟩
end
end Go.Proofs.Ytkcdehnpkephgaa
