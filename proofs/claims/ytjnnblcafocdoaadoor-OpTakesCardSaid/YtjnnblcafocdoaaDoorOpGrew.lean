/-
  How a row of the call's own grows: only its own block turns, and it ends in that or in a new one ('Grew'). No statement about a Go function.
-/
import Derived.Test.YtjnnblcafocdoaaDoorOpRow
namespace Go.Proofs.YtjnnblcafocdoaaDoor
open Go.ChangeShapes Go.WideShapes Go.ChangeAt Go.RowKit Go.Deep

/-- From the slice v to the slice v': no block has turned but v's own; v' lies in that one, or in one made since. -/
def Grew (w w' : World) (v v' : Value) : Prop := But (fun k => v.ownBlock = some k) w w' ∧ ∀ k, v'.ownBlock = some k → v.ownBlock = some k ∨ w.heap.size ≤ k
section
variable {w w' w'' : World} {v v' v'' : Value} {q : Nat}
theorem Grew.refl (w : World) (v : Value) : Grew w w v v := ⟨But.refl _ _, fun _ h => .inl h⟩
theorem Grew.trans (h : Grew w w' v v') (k : Grew w' w'' v' v'') : Grew w w'' v v'' := by
  refine ⟨h.1.then k.1 fun i hi e => ?_, fun i e => ?_⟩
  · rcases h.2 i e with q | q
    · exact q
    · omega
  · rcases k.2 i e with q | q
    · exact h.2 i q
    · exact .inr (Nat.le_trans h.1.size q)
theorem Grew.pre {o : Obj} (h : Grew (w.alloc o) w' v v') : Grew w w' v v' := by
  refine ⟨(((But.refl (fun k => v.ownBlock = some k) w).alloc o).then h.1 fun i _ e => e), fun i e => ?_⟩
  rcases h.2 i e with q | q
  · exact .inl q
  · simp at q
    exact .inr (by omega)
theorem Grew.of (b : Below w.heap.size w w') (h : Grew w' w'' v v') : Grew w w'' v v' := by
  refine ⟨(Below.but b _).then h.1 fun i _ e => e, fun i e => ?_⟩
  rcases h.2 i e with q | q
  · exact .inl q
  · exact .inr (Nat.le_trans b.size q)
theorem Grew.cs {vs : List Value} (h : Grew w w' v v') (c : Cs w q vs) (hn : v.ownBlock ≠ some q) : Cs w' q vs ∧ v'.ownBlock ≠ some q := by
  refine ⟨c.but h.1 hn, fun e => ?_⟩
  rcases h.2 q e with z | z
  · exact hn z
  · have := c.size; omega
theorem Grew.bytes {B n : Nat} {a : Option Addr} {xs : List Int} (h : Grew w w' v v') (b : Bytes w B a n xs) (hB : B ≤ w.heap.size) (hn : ∀ k, k < B → v.ownBlock ≠ some k) : Bytes w' B a n xs := b.but h.1 hB hn
theorem Grew.size (h : Grew w w' v v') : w.heap.size ≤ w'.heap.size := h.1.size
/-- Bytes in a block of their own, apart from the row that grows. -/
theorem Grew.far {n : Nat} {a : Option Addr} {xs : List Int} (h : Grew w w' v v') (b : Bytes w w.heap.size a n xs) (hn : ∀ p, a = some p → v.ownBlock ≠ some p.block) : Bytes w' w'.heap.size a n xs :=
  ⟨b.len, b.max, b.fit, fun h0 => by
    obtain ⟨g, o, e, hb, hc⟩ := b.head h0
    subst e
    exact ⟨g, o, rfl, Nat.lt_of_lt_of_le hb h.1.size, fun k s hs => (h.1.cell (p := ⟨g, o + k, none⟩) hb (hn ⟨g, o, none⟩ rfl)).trans (hc k s hs)⟩⟩
end
theorem grownGrew {w w' : World} {v v' : Value} (h : w.grownBy w' v.ownBlock) (ho : v'.ownBlock = v.ownBlock ∨ v'.ownBlock = some w.heap.size) : Grew w w' v v' := by
  refine ⟨⟨h.os, h.tape, h.output, h.size, fun i hi hn => h.block i hi (fun e => hn e.symm)⟩, fun k e => ?_⟩
  rcases ho with q | q
  · exact .inl (q ▸ e)
  · rw [q] at e
    injection e with e
    exact .inr (by omega)
/-- As 'app_bytes'; and how the row has grown. -/
theorem grow_bytes {w : World} {base n m c : Nat} {v : Value} {al : Option Addr} {xs ys : List Int} (hown : OwnB w base v n xs) (hy : Bytes w w.heap.size al m ys) (hb : base ≤ w.heap.size) (hm : n + m ≤ 1000000000) (ty : TypeId) :
    ∃ v' w', (Builtin.append_ #[25, 25] ty #[v, .slice al m c]).run Tryd.prog w = .ok v' w' ∧ OwnB w' base v' (n + m) (xs ++ ys) ∧ Grew w w' v v' := by
  obtain ⟨i0, hi, hz0, hz1, hz2⟩ := info_parts infoU8
  by_cases h0 : al = none
  · subst h0
    have hm0 : m = 0 := by
      rcases Nat.eq_zero_or_pos m with e | e
      · exact e
      · obtain ⟨b, o, e, _⟩ := hy.head e
        cases e
    have hys : ys = [] := List.length_eq_zero_iff.1 (by rw [hy.len]; exact hm0)
    subst hm0 hys
    refine ⟨v, w, ?_, by rw [List.append_nil, Nat.add_zero]; exact hown, Grew.refl _ _⟩
    obtain ⟨a, c', rfl, hc, _⟩ := hown.form
    exact run_append_noneB w a n c' c ty hc
  · obtain ⟨ad, rfl⟩ : ∃ ad, al = some ad := by
      cases al with
      | none => exact absurd rfl h0
      | some ad => exact ⟨ad, rfl⟩
    have hl := hown.len
    obtain ⟨v', w', hr, h2, h3, _, h5⟩ := run_append_own_at (P := Tryd.prog) w base 25 ty 5 i0 (.int .u8 0) 1 1 slice31 hi hz0 hz1 hz2 rfl (by decide) v n (cellsB xs) hown ad m c (cellsB ys) (by simp [cellsB, hy.len])
      (newsB hy) (fun u hu => by obtain ⟨x, _, rfl⟩ := List.mem_map.1 hu; rfl) (by unfold maxLen; omega) (by omega) hb
    rw [← cellsB_app] at h2
    exact ⟨v', w', hr, h2, grownGrew h3 h5⟩
theorem OwnB.below {w w' : World} {base n : Nat} {v v' : Value} {xs : List Int} (h : OwnB w base v n xs) (hb : base ≤ w.heap.size) (g : Grew w w' v v') : Below base w w' := by
  refine g.1.below hb fun k hk e => ?_
  obtain ⟨a, c, rfl, _, rfl | ⟨z, rfl, hz, _⟩⟩ := h.form
  · simp [Value.ownBlock] at e
  · simp [Value.ownBlock] at e
    omega
theorem OwnO.below {w w' : World} {base n : Nat} {v v' : Value} {us : List Ov} (h : OwnO w base v n us) (hb : base ≤ w.heap.size) (g : Grew w w' v v') : Below base w w' := by
  refine g.1.below hb fun k hk e => ?_
  obtain ⟨a, c, rfl, _, rfl | ⟨z, rfl, hz, _⟩⟩ := h.form
  · simp [Value.ownBlock] at e
  · simp [Value.ownBlock] at e
    omega
/-- One operation more, that was just laid in block g; and how the row has grown. -/
theorem grow_op {w : World} {base n : Nat} {v : Value} {us : List Ov} {u : Ov} {g c : Nat} (hown : OwnO w base v n us) (hu : Cs w g u.cells) (hb : base ≤ w.heap.size) (hm : n ≤ 100000000) (ty : TypeId) :
    ∃ v' w', (Builtin.append_ #[22, 22] ty #[v, .slice (some ⟨g, 0, none⟩) 1 c]).run Tryd.prog w = .ok v' w' ∧ OwnO w' base v' (n + 1) (us ++ [u]) ∧ Grew w w' v v' := by
  obtain ⟨i0, hi, hz0, hz1, hz2⟩ := info_parts infoOp
  obtain ⟨v', w', hr, h2, h3, _, h5⟩ := run_append_own_at (P := Tryd.prog) w base 22 ty 40 i0 (.agg #[.int .i64 0, .int .i64 0, .int .i64 0, .int .i64 0, .slice none 0 0]) 5 56 Tryd.underlying22 hi hz0 hz1 hz2 rfl (by decide) v n (flatO us) hown ⟨g, 0, none⟩ 1 c (flatO [u]) (by rw [flatO_len]; rfl)
    (fun j x hx => by
      have := hu.cell j x (by simpa [flatO] using hx)
      by_cases h0 : j = 0
      · subst h0; simpa [Addr.add] using this
      · simpa [Addr.add, h0] using this)
    (flatO_cells [u]) (by unfold maxLen; omega) (by omega) hb
  rw [← flatO_app] at h2
  exact ⟨v', w', hr, h2, grownGrew h3 h5⟩
end Go.Proofs.YtjnnblcafocdoaaDoor
