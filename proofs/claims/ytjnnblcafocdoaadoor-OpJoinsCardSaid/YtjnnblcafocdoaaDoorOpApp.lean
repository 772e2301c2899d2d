/-
  'append(append([]api.Op{}, a...), b...)': operations behind others, as a row of the call's own. No statement about a Go function.
-/
import Derived.Test.YtjnnblcafocdoaaDoorOpRow
import Derived.Laws.OwnMore
import Derived.Test.YtjnnblcafocdoaaDoorFresh
namespace Go.Proofs.YtjnnblcafocdoaaDoor
open Go.ChangeShapes Go.WideShapes Go.ChangeAt Go.RowKit Go.Deep

theorem run_append_noneO (w : World) (b : Option Addr) (n cap : Nat) (c : Nat) (ty : TypeId) (h : n ≤ cap) :
    (Builtin.append_ #[22, 22] ty #[.slice b n cap, .slice none 0 c]).run Tryd.prog w = .ok (.slice b n cap) w := by
  obtain ⟨i0, hi, hz0, hz1, hz2⟩ := info_parts infoOp
  cases b <;> simp [Builtin.append_, run_underlying Tryd.underlying22, sizeOf, typeInfo, hi, Builtin.lenOf, h, run_firstCells_none, storeCells]
section
variable {w : World} {base n m c B : Nat} {v : Value} {al : Option Addr} {us vs : List Ov}
theorem Ops.news {ad : Addr} (h : Ops w B (some ad) m vs) : ∀ (j : Nat) (u : Value), (flatO vs)[j]? = some u → w.cell? (ad.add j) = some u := by
  intro j u hu
  obtain ⟨s, hs, hc⟩ := flatO_of vs j u hu
  have hi := (List.getElem?_eq_some_iff.1 hs).1
  obtain ⟨b, o, e, _, hcell⟩ := h.head (by have := h.len; omega)
  injection e with e
  subst e
  have := hcell _ s hs _ u hc
  rw [show o + j / 5 * 5 + j % 5 = o + j by omega] at this
  by_cases h0 : j = 0
  · subst h0; simpa [Addr.add] using this
  · simpa [Addr.add, h0] using this
theorem app_ops (hown : OwnO w base v n us) (hy : Ops w w.heap.size al m vs) (hb : base ≤ w.heap.size) (hm : n + m ≤ 100000000) (ty : TypeId) :
    ∃ v' w', (Builtin.append_ #[22, 22] ty #[v, .slice al m c]).run Tryd.prog w = .ok v' w' ∧ OwnO w' base v' (n + m) (us ++ vs) ∧ Below base w w' := by
  obtain ⟨i0, hi, hz0, hz1, hz2⟩ := info_parts infoOp
  by_cases h0 : al = none
  · subst h0
    have hm0 : m = 0 := by
      rcases Nat.eq_zero_or_pos m with e | e
      · exact e
      · obtain ⟨b, o, e, _⟩ := hy.head e
        cases e
    have hvs : vs = [] := List.length_eq_zero_iff.1 (by rw [hy.len]; exact hm0)
    subst hm0 hvs
    obtain ⟨a, c', rfl, hc, _⟩ := hown.form
    exact ⟨_, w, run_append_noneO w a n c' c ty hc, by rw [List.append_nil, Nat.add_zero]; exact hown, Below.refl _ _⟩
  · obtain ⟨ad, rfl⟩ : ∃ ad, al = some ad := by
      cases al with
      | none => exact absurd rfl h0
      | some ad => exact ⟨ad, rfl⟩
    obtain ⟨v', w', hr, h2, h3, _, _⟩ := run_append_own_at (P := Tryd.prog) w base 22 ty 40 i0 (.agg #[.int .i64 0, .int .i64 0, .int .i64 0, .int .i64 0, .slice none 0 0]) 5 56 Tryd.underlying22 hi hz0 hz1 hz2 rfl (by decide) v n (flatO us) hown ad m c (flatO vs) (by rw [flatO_len, hy.len])
      hy.news (flatO_cells vs) (by unfold maxLen; omega) (by omega) hb
    rw [← flatO_app] at h2
    refine ⟨v', w', hr, h2, Below.grown (Below.refl _ _) h3 hb (fun k hk => ?_)⟩
    rcases hown.form with ⟨a, c', rfl, _, rfl | ⟨g, rfl, hg, _⟩⟩
    · simp [Value.ownBlock] at hk
    · simp [Value.ownBlock] at hk
      omega
/-- The whole: an empty row is made, both are put behind it. -/
theorem app_both {a1 a2 : Option Addr} {n1 n2 k1 k2 : Nat} (h1 : Ops w w.heap.size a1 n1 us) (h2 : Ops w w.heap.size a2 n2 vs) (hm : n1 + n2 ≤ 1000000) :
    ∃ (v1 v2 : Value) (w1 w2 : World) (a : Option Addr) (c : Nat), (Builtin.append_ #[22, 22] 22 #[.slice (some ⟨w.heap.size, 0, none⟩) 0 0, .slice a1 n1 k1]).run Tryd.prog (w.alloc (.cells #[] 40)) = .ok v1 w1 ∧
      (Builtin.append_ #[22, 22] 22 #[v1, .slice a2 n2 k2]).run Tryd.prog w1 = .ok v2 w2 ∧ v2 = .slice a (n1 + n2) c ∧ n1 + n2 ≤ c ∧ Ops w2 w2.heap.size a (n1 + n2) (us ++ vs) ∧ Below w.heap.size w w2 := by
  have o0 : OwnO (w.alloc (.cells #[] 40)) w.heap.size (.slice (some ⟨w.heap.size, 0, none⟩) 0 0) 0 [] := World.ownsRow_lit w #[] 0 (Nat.le_refl _) (by unfold maxLen; omega) rfl
  obtain ⟨v1, w1, r1, o1, b1⟩ := app_ops (c := k1) o0 (h1.on (below1 w (.cells #[] 40))) (by simp) (by omega) 22
  rw [Nat.zero_add, List.nil_append] at o1
  have B1 : Below w.heap.size w w1 := (below1 w _).trans b1
  obtain ⟨v2, w2, r2, o2, b2⟩ := app_ops (c := k2) o1 (h2.on B1) B1.size (by omega) 22
  have B2 : Below w.heap.size w w2 := B1.trans b2
  have hok : ∀ u ∈ us ++ vs, u.ok w2 w2.heap.size := by
    intro u hu
    rcases List.mem_append.1 hu with q | q
    · obtain ⟨i, hi⟩ := List.mem_iff_getElem?.1 q
      exact ((h1.ok i u hi).below B2).more B2.size
    · obtain ⟨i, hi⟩ := List.mem_iff_getElem?.1 q
      exact ((h2.ok i u hi).below B2).more B2.size
  obtain ⟨a, c, e, hc, ho⟩ := o2.ops hok (by omega)
  exact ⟨v1, v2, w1, w2, a, c, r1, r2, e, hc, ho, B2⟩
end
end Go.Proofs.YtjnnblcafocdoaaDoor
