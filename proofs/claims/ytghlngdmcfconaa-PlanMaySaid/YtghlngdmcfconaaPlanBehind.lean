/-
  The iterator of package plan (the function that behind returns), as one that tells counts behind moves: from a list of counts to the next one, so many moves at a time.
-/
import Derived.Test.YtghlngdmcfconaaPlanClone
import Derived.Test.YtghlngdmcfconaaRange
import Derived.Deep.Cut
import Derived.StillTailTactics
import Derived.LoopNIn
import Derived.LoopIn
namespace Go.Proofs.Ytghlngdmcfconaa
open Go.ChangeShapes Go.WideShapes Go.ChangeAt Go.RowKit Go.Deep Go.Shelf

/-- What a round is told: so many moves were made at a time, at most as many as may be; the counts behind them, in the iterator's own memory. -/
def Yl (b most : Int) (B : Nat) (xs : List Int) (vs : Array Value) (ys : List Int) (W : World) : Prop :=
  2 ≤ xs.length ∧ Sm b xs ∧ Sm b ys ∧ ys = stepL b (min most (amt b xs)) xs ∧
    ∃ a c, vs = #[.int .i64 (min most (amt b xs)), .slice a ys.length c] ∧ Ints W W.heap.size a ys.length ys ∧ Own1 W B a ys.length c

section
variable {W W' : World} {S : Nat → Prop} {B : Nat} {a : Option Addr} {n c : Nat} {xs : List Int}
theorem Own1.but (h : Own1 W B a n c) (hi : Ints W W.heap.size a n xs) (hb : But S W W') (hS : ∀ k, B ≤ k → ¬ S k) : Own1 W' B a n c ∧ Ints W' W'.heap.size a n xs := by
  refine ⟨⟨h.1, fun hn => ?_⟩, ?_⟩
  · obtain ⟨g, o, rfl, hg, hf⟩ := h.2 hn
    obtain ⟨g', o', e, hl, _⟩ := hi.head hn
    injection e with e
    injection e with e1 e2
    subst e1 e2
    exact ⟨g, o, rfl, hg, fun k => (hb.frozen (p := ⟨g, k, none⟩) hl (hS _ hg)).trans (hf k)⟩
  · refine (hi.far hb (Nat.le_refl _) fun hn => ?_).more hb.size
    obtain ⟨g, o, rfl, hg, _⟩ := h.2 hn
    exact ⟨g, o, rfl, hS _ hg⟩
end
theorem Yl.but {b most : Int} {B : Nat} {xs : List Int} {vs : Array Value} {ys : List Int} {W W' : World} (h : Yl b most B xs vs ys W) (hb : But (· < B) W W') : Yl b most B xs vs ys W' := by
  obtain ⟨h1, h2, h3, h4, a, c, e, hi, ho⟩ := h
  obtain ⟨ho', hi'⟩ := ho.but hi hb (fun k hk => by omega)
  exact ⟨h1, h2, h3, h4, a, c, e, hi', ho'⟩
theorem Yl.size {b most : Int} {B : Nat} {xs : List Int} {vs : Array Value} {ys : List Int} {W : World} (h : Yl b most B xs vs ys W) : vs.size = 2 := by
  obtain ⟨_, _, _, _, a, c, e, _⟩ := h
  rw [e]
  rfl

/-- The iterator's loop: the counts that are left, in its own memory; its boxes; what the caller says. -/
structure Lp (W : World) (p : Nat) (a : Option Addr) (n c : Nat) (b most : Int) (J : List Int → World → Prop) (v : Value) (xs : List Int) (wr : World) : Prop where
  sm : Sm b xs
  size : W.heap.size ≤ wr.heap.size
  box : Bx wr p a n c b most
  left : ∃ a' c', v = .slice a' xs.length c' ∧ Ints wr wr.heap.size a' xs.length xs ∧ Own1 wr W.heap.size a' xs.length c'
  says : J xs wr
/-- How many a slice has. -/
def many1 : Value → Nat
  | .slice _ n _ => n
  | _ => 0

/-- Two counts of a list are stored anew. -/
theorem two_set {w : World} {g o L : Nat} {x y x' y' : Int} {mid : List Int} (h : Ints w w.heap.size (some ⟨g, o, none⟩) (L + 1) (x :: (mid ++ [y]))) (hx : -9223372036854775808 ≤ x' ∧ x' ≤ 9223372036854775807) (hy : -9223372036854775808 ≤ y' ∧ y' ≤ 9223372036854775807) :
    Ints ((w.setCell ⟨g, o, none⟩ (.int .i64 x')).setCell ⟨g, o + L, none⟩ (.int .i64 y')) ((w.setCell ⟨g, o, none⟩ (.int .i64 x')).setCell ⟨g, o + L, none⟩ (.int .i64 y')).heap.size (some ⟨g, o, none⟩) (L + 1) (x' :: (mid ++ [y'])) := by
  have hl := h.len
  simp only [List.length_cons, List.length_append, List.length_nil] at hl
  obtain ⟨g', o', e, hb, hc⟩ := h.head (by omega)
  injection e with e
  injection e with e1 e2
  subst e1 e2
  have b2 : But (· = g) w ((w.setCell ⟨g, o, none⟩ (.int .i64 x')).setCell ⟨g, o + L, none⟩ (.int .i64 y')) := ((But.refl (· = g) w).setCell (p := ⟨g, o, none⟩) (fun _ => rfl) _).setCell (p := ⟨g, o + L, none⟩) (fun _ => rfl) _
  have c0 : w.cell? ⟨g, o, none⟩ = some (.int .i64 x) := hc 0 x rfl
  have cL : w.cell? ⟨g, o + L, none⟩ = some (.int .i64 y) := hc L y (by
    obtain rfl : L = mid.length + 1 := by omega
    rw [List.getElem?_cons_succ, List.getElem?_append_right (Nat.le_refl _)]
    simp)
  refine ⟨by simp; omega, h.max, fun z hz => ?_, fun _ => ⟨g, o, rfl, Nat.lt_of_lt_of_le hb b2.size, fun k s hs => ?_⟩⟩
  · simp only [List.mem_cons, List.mem_append, List.not_mem_nil, or_false] at hz
    rcases hz with rfl | hz | rfl
    · exact hx
    · exact h.2.2.1 z (by simp [hz])
    · exact hy
  · by_cases k0 : k = 0
    · subst k0
      obtain rfl : x' = s := by simpa using hs
      rw [World.cell?_setCell_other _ _ _ _ (by simp <;> omega)]
      exact World.cell?_setCell_same w ⟨g, o, none⟩ (.int .i64 x') c0
    · by_cases kL : k = L
      · subst kL
        obtain rfl : y' = s := by
          obtain rfl : k = mid.length + 1 := by omega
          rw [List.getElem?_cons_succ, List.getElem?_append_right (Nat.le_refl _)] at hs
          simpa using hs
        exact World.cell?_setCell_same _ ⟨g, o + k, none⟩ (.int .i64 y') (by rw [World.cell?_setCell_other _ _ _ _ (by simp <;> omega)]; exact cL)
      · rw [World.cell?_setCell_other _ _ _ _ (by simp <;> omega), World.cell?_setCell_other _ _ _ _ (by simp <;> omega)]
        refine hc k s ?_
        obtain ⟨j, rfl⟩ : ∃ j, k = j + 1 := ⟨k - 1, by omega⟩
        rw [List.getElem?_cons_succ] at hs ⊢
        have hj : j < mid.length := by
          have := (List.getElem?_eq_some_iff.1 hs).1
          simp at this
          omega
        rw [List.getElem?_append_left hj] at hs ⊢
        exact hs
end Go.Proofs.Ytghlngdmcfconaa
