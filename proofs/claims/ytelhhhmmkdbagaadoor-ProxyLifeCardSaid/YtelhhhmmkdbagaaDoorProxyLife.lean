/-
  The life of a handle, over plain tables: from when it was taken until it is given back, and ever after. No statement about a Go function.
-/
import Derived.Test.YtelhhhmmkdbagaaDoorProxyNum
namespace Go.Proofs.YtelhhhmmkdbagaaDoor
open Go.ChangeShapes Go.WideShapes Go.ChangeAt Go.RowKit

/-- The handle of slot k and generation g is live, or gone. -/
structure Lf (T : Tb) (k : Nat) (g : Int) (gone : Bool) : Prop where
  there : ∃ g', T.G[k]? = some g' ∧ ((gone = true ∧ g < g') ∨ (gone = false ∧ g' = g ∧ T.L[k]? = some true))
  k4 : k < 4096
  g1 : 1 ≤ g
  g2 : g ≤ 1023
section
variable {K k : Nat} {M g : Int} {T : Tb} {gone : Bool}
theorem Lf.look (h : Lf T k g gone) : lookOut T (4096 * g + (k : Int)) = (if gone = true then ((0 : Int), (6 : Int)) else ((k : Int), 0)) := by
  have a1 := h.k4
  have a2 := h.g1
  have a3 := h.g2
  have q : handB (4096 * g + (k : Int)) = true := decide_eq_true (by omega)
  have e : (4096 * g + (k : Int)) % 4096 = (k : Int) := by omega
  have d : (4096 * g + (k : Int)) / 4096 = g := by omega
  obtain ⟨g', hg, r | r⟩ := h.there
  · rw [look_old q e hg (by omega), if_pos r.1]
  · rw [look_on q e hg (by omega) r.2.2, if_neg (by simp [r.1])]
theorem Lf.took {G : List Int} {L : List Bool} {r : List Int} (w : Tw K M ⟨G, L, (k : Int) :: r⟩) (hg : G[k]? = some g) (hK : K ≤ 4096) (hM : M ≤ 1023) : Lf ⟨G, L.set k true, r⟩ k g false := by
  obtain ⟨k', e, hl, g', hg', hm⟩ := w.free (k : Int) (by simp)
  obtain rfl : k' = k := by omega
  have hk : k' < K := by rw [← w.ll]; exact (List.getElem?_eq_some_iff.1 hl).1
  have e1 : g' = g := Option.some.inj (hg'.symm.trans hg)
  exact ⟨⟨g, hg, Or.inr ⟨rfl, rfl, get_set true hl⟩⟩, by omega, (w.gen k' g hg).1, by omega⟩
/-- Give: gone now, if it was, or if it is this handle that was given back. -/
theorem Lf.give (h : Lf T k g gone) (w : Tw K M T) (hK : K ≤ 4096) (x : Int) : Lf (giveOut M T x).1 k g (gone || (decide ((giveOut M T x).2 = 0) && decide (x = 4096 * g + (k : Int)))) := by
  by_cases h0 : (lookOut T x).2 = 0
  · obtain ⟨j, g2, hj, ex, e, _, a1, a2, hG, hL, hl⟩ := look_ok w h0
    rw [give_ok_eq hl e hG]
    obtain ⟨g', hg, r⟩ := h.there
    by_cases z : j = k
    · subst z
      have e2 : g2 = g' := Option.some.inj (hG.symm.trans hg)
      have e3 : (gone || (decide ((0 : Int) = 0) && decide (x = 4096 * g + (j : Int)))) = true := by
        rcases r with r | r
        · rw [r.1]; rfl
        · have : x = 4096 * g + (j : Int) := by omega
          rw [decide_eq_true this]; simp
      show Lf _ j g (gone || (decide ((0 : Int) = 0) && decide (x = 4096 * g + (j : Int))))
      rw [e3]
      refine ⟨⟨g2 + 1, get_set _ hG, Or.inl ⟨rfl, ?_⟩⟩, h.k4, h.g1, h.g2⟩
      rcases r with r | r <;> omega
    · have hx : ¬ x = 4096 * g + (k : Int) := fun q => z (by have := h.k4; have := hK; omega)
      show Lf _ k g (gone || (decide ((0 : Int) = 0) && decide (x = 4096 * g + (k : Int))))
      rw [decide_eq_false hx, Bool.and_false, Bool.or_false]
      refine ⟨⟨g', by show (T.G.set j (g2 + 1))[k]? = _; rw [List.getElem?_set_ne z]; exact hg, ?_⟩, h.k4, h.g1, h.g2⟩
      rcases r with r | r
      · exact Or.inl r
      · exact Or.inr ⟨r.1, r.2.1, by show (T.L.set j false)[k]? = _; rw [List.getElem?_set_ne z]; exact r.2.2⟩
  · rw [give_bad_eq h0]
    show Lf T k g (gone || (decide ((lookOut T x).2 = 0) && decide (x = 4096 * g + (k : Int))))
    rw [decide_eq_false h0, Bool.false_and, Bool.or_false]
    exact h
/-- Take: the handle lives on, and no other one is the same. -/
theorem Lf.take (h : Lf T k g gone) (w : Tw K M T) (hK : K ≤ 4096) : Lf (takeOut T).1 k g gone ∧ ((takeOut T).2.2.2 = 0 → (takeOut T).2.1 ≠ 4096 * g + (k : Int)) := by
  obtain ⟨G, L, fl⟩ := T
  cases fl with
  | nil =>
    rw [take_none_eq rfl]
    exact ⟨h, fun q => by cases q⟩
  | cons x r =>
    obtain ⟨j, rfl, hl, g2, hg2, hm⟩ := w.free x (by simp)
    rw [take_ok_eq hg2]
    obtain ⟨g', hg, rr⟩ := h.there
    have hj : j < K := by rw [← w.ll]; exact (List.getElem?_eq_some_iff.1 hl).1
    have hk4 := h.k4
    have hK2 := hK
    by_cases z : j = k
    · subst z
      have e2 : g2 = g' := Option.some.inj (hg2.symm.trans hg)
      rcases rr with rr | rr
      · exact ⟨⟨⟨g', hg, Or.inl rr⟩, h.k4, h.g1, h.g2⟩, fun _ q => by simp only at q; omega⟩
      · exact absurd (hl.symm.trans rr.2.2) (by simp)
    · refine ⟨⟨⟨g', hg, ?_⟩, h.k4, h.g1, h.g2⟩, fun _ q => z (by simp only at q; omega)⟩
      rcases rr with rr | rr
      · exact Or.inl rr
      · exact Or.inr ⟨rr.1, rr.2.1, by show (L.set j true)[k]? = _; rw [List.getElem?_set_ne z]; exact rr.2.2⟩
end
end Go.Proofs.YtelhhhmmkdbagaaDoor
