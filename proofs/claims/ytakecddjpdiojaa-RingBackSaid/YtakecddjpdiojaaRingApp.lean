/-
  Appends and cuts of slices of ints, and of slices of such slices, as laws for the walk. No statement about a Go function.
-/
import Derived.Test.YtakecddjpdiojaaIntsMore
import Derived.Test.YtakecddjpdiojaaFresh
import Derived.Deep.Slices
import Derived.OpenShut
namespace Go.Proofs.Ytakecddjpdiojaa
open Go.ChangeShapes Go.WideShapes Go.ChangeAt Go.RowKit Go.Deep

theorem infoInt : (Try.prog.info? 3).map (fun i => (i.zero, i.size, i.bytes)) = some (some (.int .i64 0), 1, 8) := by kernel_rfl
theorem infoRow : (Try.prog.info? 42).map (fun i => (i.zero, i.size, i.bytes)) = some (some (.slice none 0 0), 1, 24) := by kernel_rfl
theorem run_append_none (w : World) (b : Option Addr) (n cap : Nat) (c : Nat) (ty : TypeId) (h : n ≤ cap) :
    (Builtin.append_ #[42, 42] ty #[.slice b n cap, .slice none 0 c]).run Try.prog w = .ok (.slice b n cap) w := by
  obtain ⟨i0, hi, hz0, hz1, hz2⟩ := info_parts infoInt
  cases b <;> simp [Builtin.append_, run_underlying Try.underlying42, sizeOf, typeInfo, hi, Builtin.lenOf, h, run_firstCells_none, storeCells]

section
variable {w : World} {base g n cap m c : Nat} {xs ys : List Int} {al : Option Addr}
/-- A row of the call's own grows by the ints of another one. -/
theorem app_ints (hown : w.ownsRow base 3 1 (.slice (some ⟨g, 0, none⟩) n cap) n (xs.map (Value.int .i64))) (hy : Ints w w.heap.size al m ys) (hb : base ≤ w.heap.size) (hm : n + m ≤ 1000000) (ty : TypeId) :
    ∃ g' cap' w', (Builtin.append_ #[42, 42] ty #[.slice (some ⟨g, 0, none⟩) n cap, .slice al m c]).run Try.prog w = .ok (.slice (some ⟨g', 0, none⟩) (n + m) cap') w' ∧
      w'.ownsRow base 3 1 (.slice (some ⟨g', 0, none⟩) (n + m) cap') (n + m) ((xs ++ ys).map (Value.int .i64)) ∧ Below base w w' := by
  obtain ⟨i0, hi, hz0, hz1, hz2⟩ := info_parts infoInt
  have hg := hown.lt g rfl
  have hcap : n ≤ cap := by
    rcases hown.2 with ⟨e, _⟩ | ⟨g', cap', cur, hv, _, _, hc, _⟩
    · cases e
    · injection hv with _ _ e3
      omega
  by_cases h0 : al = none
  · subst h0
    have hm0 : m = 0 := by
      rcases Nat.eq_zero_or_pos m with e | e
      · exact e
      · obtain ⟨b, o, e, _⟩ := hy.head e
        cases e
    have hys : ys = [] := List.length_eq_zero_iff.1 (by rw [hy.len]; exact hm0)
    subst hm0 hys
    refine ⟨g, cap, w, run_append_none w _ n cap c ty hcap, ?_, Below.refl _ _⟩
    rw [List.append_nil, Nat.add_zero]
    exact hown
  · obtain ⟨ad, rfl⟩ : ∃ ad, al = some ad := by
      cases al with
      | none => exact absurd rfl h0
      | some ad => exact ⟨ad, rfl⟩
    obtain ⟨v', w', hr, h2, h3, _, h5⟩ := run_append_own_at (P := Try.prog) w base 42 ty 3 i0 (.int .i64 0) 1 8 Try.underlying42 hi hz0 hz1 hz2 rfl Nat.one_pos (.slice (some ⟨g, 0, none⟩) n cap) n (xs.map (Value.int .i64)) hown ad m c (ys.map (Value.int .i64)) (by simp [hy.len])
      (fun j u hu => by
        have hj : j < ys.length := by have := (List.getElem?_eq_some_iff.1 hu).1; simpa using this
        obtain ⟨b, o, e, _, _⟩ := hy.head (by have := hy.len; omega)
        cases e
        exact newsOf hy j u hu)
      (fun u hu => by obtain ⟨x, _, rfl⟩ := List.mem_map.1 hu; rfl) (by unfold maxLen; omega) (by omega) hb
    rw [← List.map_append] at h2
    have hv : ∃ g' cap', v' = .slice (some ⟨g', 0, none⟩) (n + m) cap' := by
      rcases h2.2 with ⟨e, _⟩ | ⟨g', cap', _, hv, _⟩
      · subst e
        rcases h5 with h5 | h5 <;> simp [Value.ownBlock] at h5
      · exact ⟨g', cap', hv⟩
    obtain ⟨g', cap', rfl⟩ := hv
    exact ⟨g', cap', w', hr, h2, Below.grown (Below.refl _ _) h3 hb (fun k hk => by simp [Value.ownBlock] at hk; omega)⟩
end

/-- An append whose run is known, as a law for the walk. -/
theorem wpList_append_run {t : TypeId} {w w' : World} {ops : Array Oper} {rest : List Oper} {o : Oper} {a : Act} {Q : Exit → Act → World → Prop} {v v1 v2 : Value} (hgd : o.guard = none) (s x : Operand)
    (ho : o.op = .call { callee := .builtin .append, args := #[s, x], argTypes := #[t, t] }) (hty : o.type = t) (hs : a.eval s = v1) (hx : a.eval x = v2)
    (hrun : (Builtin.append_ #[t, t] t #[v1, v2]).run Try.prog w = .ok v w') (h : wpList Try.prog ops Q rest (a.put o.dst v) w') : wpList Try.prog ops Q (o :: rest) a w := by
  refine wpList_plain hgd fun K hK => ?_
  unfold Oper.wp
  simp [execOp, ho, resolve, invoke, builtin, hs, hx, hty, hrun, Result.andThen]
  exact hK _ _ h
/-- The same at a step of a region that draws its order. -/
theorem step_append_run {t : TypeId} {w w' : World} {ops : Array Oper} {o : Oper} {a : Act} {K : Act → World → Prop} {Q : Exit → Act → World → Prop} {E : Prop} {v v1 v2 : Value} (hgd : o.guard = none) (s x : Operand)
    (ho : o.op = .call { callee := .builtin .append, args := #[s, x], argTypes := #[t, t] }) (hty : o.type = t) (hs : a.eval s = v1) (hx : a.eval x = v2)
    (hrun : (Builtin.append_ #[t, t] t #[v1, v2]).run Try.prog w = .ok v w') (h : K (a.put o.dst v) w') : if Region.wanted o (yielded ops a.tmps) = true then Oper.wp Try.prog o a w K Q else E := by
  have hw : Region.wanted o (yielded ops a.tmps) = true := by simp [Region.wanted, hgd]
  rw [if_pos hw]
  unfold Oper.wp
  simp [execOp, ho, resolve, invoke, builtin, hs, hx, hty, hrun, Result.andThen]
  exact h

/-- A row of the call's own, as ints. -/
theorem ints_own {w : World} {base g n cap : Nat} {xs : List Int} (h : w.ownsRow base 3 1 (.slice (some ⟨g, 0, none⟩) n cap) n (xs.map (Value.int .i64))) (hm : n ≤ 1000000) (hf : ∀ x ∈ xs, -9223372036854775808 ≤ x ∧ x ≤ 9223372036854775807) : Ints w w.heap.size (some ⟨g, 0, none⟩) n xs ∧ n ≤ cap := by
  constructor
  · rcases Nat.eq_zero_or_pos n with e | e
    · have hl : xs.length = n := by have := h.1; simpa using this
      exact ⟨hl, by omega, hf, fun q => absurd q (by omega)⟩
    · exact ints_of_own h e (by omega) hf
  · rcases h.2 with ⟨e, _⟩ | ⟨g', cap', cur, hv, _, _, hc, _⟩
    · cases e
    · injection hv with _ _ e3
      omega

/-! ### Cuts -/
section
variable {w : World} {B n : Nat} {a : Option Addr} {xs : List Int}
theorem Ints.take (h : Ints w B a n xs) {k : Nat} (hk : k ≤ n) : Ints w B a k (xs.take k) := by
  have hl := h.len
  refine ⟨by rw [List.length_take]; omega, by have := h.max; omega, fun x hx => h.2.2.1 x (List.mem_of_mem_take hx), fun hn => ?_⟩
  obtain ⟨b, o, e, hb, hc⟩ := h.head (by omega)
  refine ⟨b, o, e, hb, fun j s hs => ?_⟩
  rw [List.getElem?_take] at hs
  split at hs
  · exact hc j s hs
  · cases hs
end
/-- 'l[:k]' is run so. -/
theorem cut_to {b o n c k : Nat} (hk : k ≤ n) (hnc : n ≤ c) (v : World) :
    (Instr.sliceAt 42 (.slice (some ⟨b, o, none⟩) n c) none (some (.int .i64 (k : Int))) none).run Try.prog v = .ok (.slice (some ⟨b, o, none⟩) k c) v := by
  have hu : Try.prog.underlying 42 = some (.slice (Try.prog.elem 42)) := by kernel_rfl
  have hs : ∀ v, (sizeOf (Try.prog.elem 42)).run Try.prog v = .ok 1 v := fun v => by kernel_rfl
  rw [run_sliceAt_slice _ _ _ _ _ _ hu, run_slice_h _ _ _ _ _ hu _ _ (by omega) (by omega), hs]
  simp [Result.andThen, sliced, Addr.add]
/-- 'l[k:]' is run so. -/
theorem cut_from {w : World} {B b o n c : Nat} {xs : List Int} (h : Ints w B (some ⟨b, o, none⟩) n xs) {k : Nat} (hk : k ≤ n) (hnc : n ≤ c) :
    ∃ (a' : Option Addr) (c' : Nat), n - k ≤ c' ∧ (∀ v, (Instr.sliceAt 42 (.slice (some ⟨b, o, none⟩) n c) (some (.int .i64 (k : Int))) none none).run Try.prog v = .ok (.slice a' (n - k) c') v) ∧ Ints w B a' (n - k) (xs.drop k) := by
  have hu : Try.prog.underlying 42 = some (.slice (Try.prog.elem 42)) := by kernel_rfl
  have hs : ∀ v, (sizeOf (Try.prog.elem 42)).run Try.prog v = .ok 1 v := fun v => by kernel_rfl
  have run : ∀ v, (Instr.sliceAt 42 (.slice (some ⟨b, o, none⟩) n c) (some (.int .i64 (k : Int))) none none).run Try.prog v = .ok (sliced (some ⟨b, o, none⟩) k n c 1) v := by
    intro v
    rw [run_sliceAt_slice _ _ _ _ _ _ hu, run_slice_l _ _ _ _ _ hu _ _ (by omega) (by omega), hs]
    simp [Result.andThen]
  have hl := h.len
  by_cases hc : c = k
  · exact ⟨some ⟨b, o, none⟩, c - k, by omega, fun v => (run v).trans (by simp [sliced, hc]), ⟨by rw [List.length_drop]; omega, by have := h.max; omega, fun x hx => h.2.2.1 x (List.mem_of_mem_drop hx), fun q => absurd q (by omega)⟩⟩
  · refine ⟨some ⟨b, o + k, none⟩, c - k, by omega, fun v => (run v).trans ?_, ⟨by rw [List.length_drop]; omega, by have := h.max; omega, fun x hx => h.2.2.1 x (List.mem_of_mem_drop hx), fun q => ?_⟩⟩
    · by_cases h0 : k = 0
      · subst h0; simp [sliced, Addr.add]
      · simp [sliced, hc, Addr.add, h0]
    · obtain ⟨b', o', e, hb, hcell⟩ := h.head (by omega)
      injection e with e
      injection e with e1 e2
      subst e1 e2
      refine ⟨b, o + k, rfl, hb, fun j s hs => ?_⟩
      rw [List.getElem?_drop] at hs
      rw [Nat.add_assoc]
      exact hcell (k + j) s hs

/-! ### A slice of slices, copied -/
theorem app_rows {w : World} {b o M c : Nat} {vs : List Value} (hl : vs.length = M) (hM : 0 < M) (hm : M ≤ 1000000) (hb : b < w.heap.size) (hc : ∀ (j : Nat) (u : Value), vs[j]? = some u → w.cell? ⟨b, o + j, none⟩ = some u) (h1 : ∀ u ∈ vs, u.oneCell' = true) (ty : TypeId) :
    ∃ g cap w', (Builtin.append_ #[28, 28] ty #[.slice (some ⟨w.heap.size, 0, none⟩) 0 0, .slice (some ⟨b, o, none⟩) M c]).run Try.prog (w.alloc (.cells #[] 42)) = .ok (.slice (some ⟨g, 0, none⟩) M cap) w' ∧
      (∀ (j : Nat) (u : Value), vs[j]? = some u → w'.cell? ⟨g, j, none⟩ = some u) ∧ (∀ j, w'.frozen? ⟨g, j, none⟩ = false) ∧ Below w.heap.size w w' ∧ M ≤ cap ∧ w.heap.size ≤ g ∧ g < w'.heap.size := by
  obtain ⟨i0, hi, hz0, hz1, hz2⟩ := info_parts infoRow
  have ownA : (w.alloc (.cells #[] 42)).ownsRow w.heap.size 42 1 (.slice (some ⟨w.heap.size, 0, none⟩) 0 0) 0 [] := World.ownsRow_lit w #[] 0 (Nat.le_refl _) (by unfold maxLen; omega) rfl
  obtain ⟨g, cap, w', hrun, hown, hgrow, _, hlt⟩ := run_append_lies (P := Try.prog) (w.alloc (.cells #[] 42)) 28 ty w.heap.size 42 i0 (.slice none 0 0) 1 24 Try.underlying28 hi hz0 hz1 hz2 rfl Nat.one_pos (.slice (some ⟨w.heap.size, 0, none⟩) 0 0) 0 [] ownA ⟨b, o, none⟩ M c vs (by simp [hl])
    (fun j u hu => by
      have := (World.cell?_alloc_lt w (.cells #[] 42) ⟨b, o + j, none⟩ hb).trans (hc j u hu)
      by_cases h0 : j = 0
      · subst h0; simpa [Addr.add] using this
      · simpa [Addr.add, h0] using this)
    h1 hM (by unfold maxLen; omega) (by omega) (by simp) _ rfl
  rw [Nat.zero_add] at hrun hown
  rw [List.nil_append] at hown
  have hg := hown.lt g rfl
  refine ⟨g, cap, w', hrun, fun j u hu => ?_, fun j => hown.frozenAt j, Below.grown (below1 w _) hgrow (by simp) (fun k hk => by simp [Value.ownBlock] at hk; omega), ?_, hg.1, hg.2⟩
  · have hj := (List.getElem?_eq_some_iff.1 hu).1
    rw [hown.cellAt j (by omega)]
    exact hu
  · rcases hown.2 with ⟨e, _⟩ | ⟨g', cap', cur, hv, _, _, hc, _⟩
    · cases e
    · injection hv with _ _ e3
      omega
end Go.Proofs.Ytakecddjpdiojaa
