/-
  Appends and cuts of slices of ints, as laws for the walk; ints kept by what turns other blocks. No statement about a Go function.
-/
import Derived.Test.YtkcdehnpkephgaaIntsMore
import Derived.Test.YtkcdehnpkephgaaAppRun
import Derived.Test.YtkcdehnpkephgaaBut
import Derived.Deep.Slices
import Derived.OpenShut
namespace Go.Proofs.Ytkcdehnpkephgaa
open Go.ChangeShapes Go.WideShapes Go.ChangeAt Go.RowKit Go.Deep

theorem infoInt : (Try.prog.info? 3).map (fun i => (i.zero, i.size, i.bytes)) = some (some (.int .i64 0), 1, 8) := by kernel_rfl
theorem run_append_none (w : World) (b : Option Addr) (n cap : Nat) (c : Nat) (ty : TypeId) (h : n ≤ cap) :
    (Builtin.append_ #[22, 22] ty #[.slice b n cap, .slice none 0 c]).run Try.prog w = .ok (.slice b n cap) w := by
  obtain ⟨i0, hi, hz0, hz1, hz2⟩ := info_parts infoInt
  cases b <;> simp [Builtin.append_, run_underlying Try.underlying22, sizeOf, typeInfo, hi, Builtin.lenOf, h, run_firstCells_none, storeCells]

section
variable {w : World} {base g n cap m c : Nat} {xs ys : List Int} {al : Option Addr}
/-- A row of the call's own grows by the ints of another one. -/
theorem app_ints (hown : w.ownsRow base 3 1 (.slice (some ⟨g, 0, none⟩) n cap) n (xs.map (Value.int .i64))) (hy : Ints w w.heap.size al m ys) (hb : base ≤ w.heap.size) (hm : n + m ≤ 1000000) (ty : TypeId) :
    ∃ g' cap' w', (Builtin.append_ #[22, 22] ty #[.slice (some ⟨g, 0, none⟩) n cap, .slice al m c]).run Try.prog w = .ok (.slice (some ⟨g', 0, none⟩) (n + m) cap') w' ∧
      w'.ownsRow base 3 1 (.slice (some ⟨g', 0, none⟩) (n + m) cap') (n + m) ((xs ++ ys).map (Value.int .i64)) ∧ Below base w w' := by
  obtain ⟨i0, hi, hz0, hz1, hz2⟩ := info_parts infoInt
  have hg := hown.lt g rfl
  have hcap : n ≤ cap := by
    rcases hown.2 with ⟨e, _⟩ | ⟨g', cap', cur, hv, _, _, hc, _⟩
    · cases e
    · injection hv with _ _ e3
      omega
  by_cases h0 : al = none
  · subst h0
    have hm0 : m = 0 := by
      rcases Nat.eq_zero_or_pos m with e | e
      · exact e
      · obtain ⟨b, o, e, _⟩ := hy.head e
        cases e
    have hys : ys = [] := List.length_eq_zero_iff.1 (by rw [hy.len]; exact hm0)
    subst hm0 hys
    refine ⟨g, cap, w, run_append_none w _ n cap c ty hcap, ?_, Below.refl _ _⟩
    rw [List.append_nil, Nat.add_zero]
    exact hown
  · obtain ⟨ad, rfl⟩ : ∃ ad, al = some ad := by
      cases al with
      | none => exact absurd rfl h0
      | some ad => exact ⟨ad, rfl⟩
    obtain ⟨v', w', hr, h2, h3, _, h5⟩ := run_append_own_at (P := Try.prog) w base 22 ty 3 i0 (.int .i64 0) 1 8 Try.underlying22 hi hz0 hz1 hz2 rfl Nat.one_pos (.slice (some ⟨g, 0, none⟩) n cap) n (xs.map (Value.int .i64)) hown ad m c (ys.map (Value.int .i64)) (by simp [hy.len])
      (fun j u hu => by
        have hj : j < ys.length := by have := (List.getElem?_eq_some_iff.1 hu).1; simpa using this
        obtain ⟨b, o, e, _, _⟩ := hy.head (by have := hy.len; omega)
        cases e
        exact newsOf hy j u hu)
      (fun u hu => by obtain ⟨x, _, rfl⟩ := List.mem_map.1 hu; rfl) (by unfold maxLen; omega) (by omega) hb
    rw [← List.map_append] at h2
    have hv : ∃ g' cap', v' = .slice (some ⟨g', 0, none⟩) (n + m) cap' := by
      rcases h2.2 with ⟨e, _⟩ | ⟨g', cap', _, hv, _⟩
      · subst e
        rcases h5 with h5 | h5 <;> simp [Value.ownBlock] at h5
      · exact ⟨g', cap', hv⟩
    obtain ⟨g', cap', rfl⟩ := hv
    exact ⟨g', cap', w', hr, h2, Below.grown (Below.refl _ _) h3 hb (fun k hk => by simp [Value.ownBlock] at hk; omega)⟩
end

/-- A row of the call's own, as ints. -/
theorem ints_own {w : World} {base g n cap : Nat} {xs : List Int} (h : w.ownsRow base 3 1 (.slice (some ⟨g, 0, none⟩) n cap) n (xs.map (Value.int .i64))) (hm : n ≤ 1000000) (hf : ∀ x ∈ xs, -9223372036854775808 ≤ x ∧ x ≤ 9223372036854775807) : Ints w w.heap.size (some ⟨g, 0, none⟩) n xs ∧ n ≤ cap := by
  constructor
  · rcases Nat.eq_zero_or_pos n with e | e
    · have hl : xs.length = n := by have := h.1; simpa using this
      exact ⟨hl, by omega, hf, fun q => absurd q (by omega)⟩
    · exact ints_of_own h e (by omega) hf
  · rcases h.2 with ⟨e, _⟩ | ⟨g', cap', cur, hv, _, _, hc, _⟩
    · cases e
    · injection hv with _ _ e3
      omega

/-! ### Cuts -/
section
variable {w : World} {B n : Nat} {a : Option Addr} {xs : List Int}
theorem Ints.take (h : Ints w B a n xs) {k : Nat} (hk : k ≤ n) : Ints w B a k (xs.take k) := by
  have hl := h.len
  refine ⟨by rw [List.length_take]; omega, by have := h.max; omega, fun x hx => h.2.2.1 x (List.mem_of_mem_take hx), fun hn => ?_⟩
  obtain ⟨b, o, e, hb, hc⟩ := h.head (by omega)
  refine ⟨b, o, e, hb, fun j s hs => ?_⟩
  rw [List.getElem?_take] at hs
  split at hs
  · exact hc j s hs
  · cases hs
end
/-- 'l[:k]' is run so. -/
theorem cut_to {b o n c k : Nat} (hk : k ≤ n) (hnc : n ≤ c) (v : World) :
    (Instr.sliceAt 22 (.slice (some ⟨b, o, none⟩) n c) none (some (.int .i64 (k : Int))) none).run Try.prog v = .ok (.slice (some ⟨b, o, none⟩) k c) v := by
  have hu : Try.prog.underlying 22 = some (.slice (Try.prog.elem 22)) := by kernel_rfl
  have hs : ∀ v, (sizeOf (Try.prog.elem 22)).run Try.prog v = .ok 1 v := fun v => by kernel_rfl
  rw [run_sliceAt_slice _ _ _ _ _ _ hu, run_slice_h _ _ _ _ _ hu _ _ (by omega) (by omega), hs]
  simp [Result.andThen, sliced, Addr.add]
/-- 'l[k:]' is run so. -/
theorem cut_tail {w : World} {B b o n c : Nat} {xs : List Int} (h : Ints w B (some ⟨b, o, none⟩) n xs) {k : Nat} (hk : k ≤ n) (hnc : n ≤ c) :
    ∃ (o' c' : Nat), n - k ≤ c' ∧ (∀ v, (Instr.sliceAt 22 (.slice (some ⟨b, o, none⟩) n c) (some (.int .i64 (k : Int))) none none).run Try.prog v = .ok (.slice (some ⟨b, o', none⟩) (n - k) c') v) ∧ Ints w B (some ⟨b, o', none⟩) (n - k) (xs.drop k) := by
  have hu : Try.prog.underlying 22 = some (.slice (Try.prog.elem 22)) := by kernel_rfl
  have hs : ∀ v, (sizeOf (Try.prog.elem 22)).run Try.prog v = .ok 1 v := fun v => by kernel_rfl
  have run : ∀ v, (Instr.sliceAt 22 (.slice (some ⟨b, o, none⟩) n c) (some (.int .i64 (k : Int))) none none).run Try.prog v = .ok (sliced (some ⟨b, o, none⟩) k n c 1) v := by
    intro v
    rw [run_sliceAt_slice _ _ _ _ _ _ hu, run_slice_l _ _ _ _ _ hu _ _ (by omega) (by omega), hs]
    simp [Result.andThen]
  have hl := h.len
  by_cases hc : c = k
  · exact ⟨o, c - k, by omega, fun v => (run v).trans (by simp [sliced, hc]), ⟨by rw [List.length_drop]; omega, by have := h.max; omega, fun x hx => h.2.2.1 x (List.mem_of_mem_drop hx), fun q => absurd q (by omega)⟩⟩
  · refine ⟨o + k, c - k, by omega, fun v => (run v).trans ?_, ⟨by rw [List.length_drop]; omega, by have := h.max; omega, fun x hx => h.2.2.1 x (List.mem_of_mem_drop hx), fun q => ?_⟩⟩
    · by_cases h0 : k = 0
      · subst h0; simp [sliced, Addr.add]
      · simp [sliced, hc, Addr.add, h0]
    · obtain ⟨b', o', e, hb, hcell⟩ := h.head (by omega)
      injection e with e
      injection e with e1 e2
      subst e1 e2
      refine ⟨b, o + k, rfl, hb, fun j s hs => ?_⟩
      rw [List.getElem?_drop] at hs
      rw [Nat.add_assoc]
      exact hcell (k + j) s hs

theorem cut_from {w : World} {B b o n c : Nat} {xs : List Int} (h : Ints w B (some ⟨b, o, none⟩) n xs) {k : Nat} (hk : k ≤ n) (hnc : n ≤ c) :
    ∃ (a' : Option Addr) (c' : Nat), n - k ≤ c' ∧ (∀ v, (Instr.sliceAt 22 (.slice (some ⟨b, o, none⟩) n c) (some (.int .i64 (k : Int))) none none).run Try.prog v = .ok (.slice a' (n - k) c') v) ∧ Ints w B a' (n - k) (xs.drop k) := by
  obtain ⟨o', c', h1, h2, h3⟩ := cut_tail h hk hnc
  exact ⟨_, c', h1, h2, h3⟩

/-! ### Ints kept by what turns other blocks -/
section
variable {w w' : World} {S : Nat → Prop} {a : Option Addr} {n : Nat}
theorem Ints.butAt {B b o : Nat} {xs : List Int} (h : Ints w B (some ⟨b, o, none⟩) n xs) (hb : But S w w') (hB : B ≤ w.heap.size) (hn : ¬ S b) : Ints w' B (some ⟨b, o, none⟩) n xs :=
  ⟨h.1, h.2.1, h.2.2.1, fun h0 => by
    obtain ⟨b', o', e, hl, hc⟩ := h.2.2.2 h0
    injection e with e
    injection e with e1 e2
    subst e1 e2
    exact ⟨b, o, rfl, hl, fun k s hs => (hb.cell (p := ⟨b, o + k, none⟩) (by show b < _; omega) hn).trans (hc k s hs)⟩⟩
theorem Ints.far {B : Nat} {xs : List Int} (h : Ints w B a n xs) (hb : But S w w') (hB : B ≤ w.heap.size) (hn : 0 < n → ∃ f o, a = some ⟨f, o, none⟩ ∧ ¬ S f) : Ints w' B a n xs := by
  by_cases h0 : 0 < n
  · obtain ⟨f, o, rfl, hf⟩ := hn h0
    exact h.butAt hb hB hf
  · exact ⟨h.1, h.2.1, h.2.2.1, fun q => absurd q h0⟩
end

/-! ### One more int behind a row of the call's own -/
theorem app_one {w : World} {base : Nat} {v : Value} {k : Nat} {xs : List Int} (hown : w.ownsRow base 3 1 v k (xs.map (Value.int .i64))) (hb : base ≤ w.heap.size) (hm : k ≤ 1000000) (y : Int) (ty : TypeId) :
    ∃ g cap w', (Builtin.append_ #[22, 22] ty #[v, .slice (some ⟨w.heap.size, 0, none⟩) 1 1]).run Try.prog (w.alloc (.cells #[.int .i64 y] 3)) = .ok (.slice (some ⟨g, 0, none⟩) (k + 1) cap) w' ∧
      w'.ownsRow base 3 1 (.slice (some ⟨g, 0, none⟩) (k + 1) cap) (k + 1) ((xs ++ [y]).map (Value.int .i64)) ∧ (w.alloc (.cells #[.int .i64 y] 3)).grownBy w' v.ownBlock ∧ (v.ownBlock = some g ∨ g = w.heap.size + 1) := by
  obtain ⟨i0, hi, hz0, hz1, hz2⟩ := info_parts infoInt
  obtain ⟨v', w', hr, h2, h3, _, h5⟩ := run_append_own_at (P := Try.prog) (w.alloc (.cells #[.int .i64 y] 3)) base 22 ty 3 i0 (.int .i64 0) 1 8 Try.underlying22 hi hz0 hz1 hz2 rfl Nat.one_pos v k (xs.map (Value.int .i64)) (hown.alloc _) ⟨w.heap.size, 0, none⟩ 1 1 [.int .i64 y] rfl
    (newsOne (by simp)) (fun u hu => by rw [List.mem_singleton.1 hu]; rfl) (by unfold maxLen; omega) (by omega) (by simp; omega)
  obtain ⟨g, cap, rfl, hg, _⟩ := h2.form (by omega)
  refine ⟨g, cap, w', hr, by rw [List.map_append]; exact h2, h3, ?_⟩
  rcases h5 with h5 | h5
  · exact Or.inl h5.symm
  · simp [Value.ownBlock] at h5
    exact Or.inr h5
end Go.Proofs.Ytkcdehnpkephgaa
