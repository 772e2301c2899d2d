import Derived.Test.YtijkigibcpgciaaZPlNum
import Derived.Test.YtijkigibcpgciaaZGB
/-
  The document's own answers for package pool (almeryref08): its pool in memory ('Rp'), a variable that holds one ('Bv'), New, Owner.
-/
namespace Go.Proofs.Ytijkigibcpgciaa.Pl
open Go.ChangeShapes Go.WideShapes Go.ChangeAt Go.RowKit Go.Deep
set_option maxRecDepth 100000

/-- Block q is a variable that holds the document's pool: two slices. -/
structure Bv (w : World) (q : Nat) (oa : Option Addr) (K oc : Nat) (fa : Option Addr) (n fc : Nat) : Prop where
  c0 : w.cell? ⟨q, 0, none⟩ = some (.slice oa K oc)
  c1 : w.cell? ⟨q, 1, none⟩ = some (.slice fa n fc)
  f0 : w.frozen? ⟨q, 0, none⟩ = false
  f1 : w.frozen? ⟨q, 1, none⟩ = false
/-- A block of such a variable. -/
def pbox (oa : Option Addr) (K oc : Nat) (fa : Option Addr) (n fc : Nat) : Obj := .cells #[.slice oa K oc, .slice fa n fc] 33
section
variable {w w' : World} {q K oc n fc : Nat} {oa fa : Option Addr}
theorem Bv.size (h : Bv w q oa K oc fa n fc) : q < w.heap.size := lt_of_cell (p := ⟨q, 0, none⟩) h.c0
theorem Bv.but {S : Nat → Prop} (h : Bv w q oa K oc fa n fc) (hb : But S w w') (hn : ¬ S q) : Bv w' q oa K oc fa n fc :=
  ⟨(hb.cell (p := ⟨q, 0, none⟩) h.size hn).trans h.c0, (hb.cell (p := ⟨q, 1, none⟩) h.size hn).trans h.c1, (hb.frozen (p := ⟨q, 0, none⟩) h.size hn).trans h.f0, (hb.frozen (p := ⟨q, 1, none⟩) h.size hn).trans h.f1⟩
theorem Bv.below (h : Bv w q oa K oc fa n fc) (hb : Below w.heap.size w w') : Bv w' q oa K oc fa n fc := h.but (Below.but hb fun _ => False) id
theorem Bv.new (w : World) (oa : Option Addr) (K oc : Nat) (fa : Option Addr) (n fc : Nat) : Bv (w.alloc (.cells #[.slice oa K oc, .slice fa n fc] 33)) w.heap.size oa K oc fa n fc := ⟨by go_simp, by go_simp, by go_simp, by go_simp⟩
theorem Bv.set (h : Bv w q oa K oc fa n fc) (oa' : Option Addr) (K' oc' : Nat) (fa' : Option Addr) (n' fc' : Nat) : Bv ((w.setCell ⟨q, 0, none⟩ (.slice oa' K' oc')).setCell ⟨q, 1, none⟩ (.slice fa' n' fc')) q oa' K' oc' fa' n' fc' :=
  ⟨(World.cell?_setCell_other _ ⟨q, 1, none⟩ ⟨q, 0, none⟩ _ (by simp)).trans (World.cell?_setCell_same w ⟨q, 0, none⟩ _ h.c0),
    World.cell?_setCell_same _ ⟨q, 1, none⟩ _ ((World.cell?_setCell_other w ⟨q, 0, none⟩ ⟨q, 1, none⟩ _ (by simp)).trans h.c1), by simpa using h.f0, by simpa using h.f1⟩
theorem Bv.set0 (h : Bv w q oa K oc fa n fc) (oa' : Option Addr) (K' oc' : Nat) : Bv (w.setCell ⟨q, 0, none⟩ (.slice oa' K' oc')) q oa' K' oc' fa n fc :=
  ⟨World.cell?_setCell_same w ⟨q, 0, none⟩ _ h.c0, (World.cell?_setCell_other w ⟨q, 0, none⟩ ⟨q, 1, none⟩ _ (by simp)).trans h.c1, by simpa using h.f0, by simpa using h.f1⟩
theorem Bv.set1 (h : Bv w q oa K oc fa n fc) (fa' : Option Addr) (n' fc' : Nat) : Bv (w.setCell ⟨q, 1, none⟩ (.slice fa' n' fc')) q oa K oc fa' n' fc' :=
  ⟨(World.cell?_setCell_other w ⟨q, 1, none⟩ ⟨q, 0, none⟩ _ (by simp)).trans h.c0, World.cell?_setCell_same w ⟨q, 1, none⟩ _ h.c1, by simpa using h.f0, by simpa using h.f1⟩
end
theorem but_two (w : World) (q : Nat) (u v : Value) : But (· = q) w ((w.setCell ⟨q, 0, none⟩ u).setCell ⟨q, 1, none⟩ v) := ((But.refl (· = q) w).setCell (p := ⟨q, 0, none⟩) (fun _ => rfl) u).setCell (p := ⟨q, 1, none⟩) (fun _ => rfl) v
theorem but_one (w : World) (q i : Nat) (u : Value) : But (· = q) w (w.setCell ⟨q, i, none⟩ u) := (But.refl (· = q) w).setCell (p := ⟨q, i, none⟩) (fun _ => rfl) u

/-- The document's pool, of which it is known in which blocks it lies. -/
structure Rp (w : World) (P : Nat → Prop) (oa : Option Addr) (oc : Nat) (fa : Option Addr) (fc n K : Nat) (O fl : List Int) : Prop where
  own : Ints w w.heap.size oa K O
  free : Ints w w.heap.size fa n fl
  oc_ : K ≤ oc
  fc_ : n ≤ fc
  lt : ∀ k, P k → k < w.heap.size
  po : 0 < K → ∃ b o, oa = some ⟨b, o, none⟩ ∧ P b
  pf : 0 < n → ∃ b o, fa = some ⟨b, o, none⟩ ∧ P b
section
variable {w w' : World} {P Q S : Nat → Prop} {oa fa : Option Addr} {oc fc n K : Nat} {O fl : List Int}
theorem Rp.but (h : Rp w P oa oc fa fc n K O fl) (hb : But S w w') (hS : ∀ k, P k → ¬ S k) : Rp w' P oa oc fa fc n K O fl :=
  ⟨(h.own.far hb (Nat.le_refl _) fun q => by obtain ⟨b, o, e, hp⟩ := h.po q; exact ⟨b, o, e, hS b hp⟩).more hb.size,
    (h.free.far hb (Nat.le_refl _) fun q => by obtain ⟨b, o, e, hp⟩ := h.pf q; exact ⟨b, o, e, hS b hp⟩).more hb.size,
    h.oc_, h.fc_, fun k hk => Nat.lt_of_lt_of_le (h.lt k hk) hb.size, h.po, h.pf⟩
theorem Rp.on (h : Rp w P oa oc fa fc n K O fl) (hb : Below w.heap.size w w') : Rp w' P oa oc fa fc n K O fl := h.but (Below.but hb fun _ => False) fun _ _ q => q
end

/-- How an act of the document's ends: owners and free ones are those of r. -/
def RefGive (P : Nat → Prop) (K : Nat) (r : List Int × List Int × Int) (w : World) (e : Ending) (w' : World) : Prop :=
  ∃ oa oc fa fc n Q, e = .returned (.tuple #[.agg #[.slice oa K oc, .slice fa n fc], .int .i64 r.2.2]) ∧ Rp w' Q oa oc fa fc n K r.1 r.2.1 ∧ Below w.heap.size w w' ∧ ∀ k, Q k → P k ∨ w.heap.size ≤ k
def RefTake (P : Nat → Prop) (K : Nat) (r : List Int × List Int × Int × Int) (w : World) (e : Ending) (w' : World) : Prop :=
  ∃ oa oc fa fc n Q, e = .returned (.tuple #[.agg #[.slice oa K oc, .slice fa n fc], .int .i64 r.2.2.1, .int .i64 r.2.2.2]) ∧ Rp w' Q oa oc fa fc n K r.1 r.2.1 ∧ Below w.heap.size w w' ∧ ∀ k, Q k → P k ∨ w.heap.size ≤ k

/-! ### New -/
/-- Owners and free ones grow, each in a row of the call's own, in a variable of the call's. -/
structure Nr (w : World) (base X k j : Nat) (oa : Option Addr) (oc : Nat) (fa : Option Addr) (fc : Nat) : Prop where
  lv : Bv w X oa k oc fa j fc
  o0 : w.ownsRow base 3 1 (.slice oa k oc) k ((freed k).map (Value.int .i64))
  o1 : w.ownsRow base 3 1 (.slice fa j fc) j ((turns j).map (Value.int .i64))
  ne : ∀ g, (Value.slice oa k oc).ownBlock = some g → (Value.slice fa j fc).ownBlock ≠ some g
  xb : X < base
  bs : base ≤ w.heap.size
section
variable {w : World} {base X k j oc fc : Nat} {oa fa : Option Addr}
theorem own_but {S : Nat → Prop} {w' : World} {v : Value} {n : Nat} {xs : List Value} (h : w.ownsRow base 3 1 v n xs) (hb : But S w w') (hS : ∀ g, v.ownBlock = some g → ¬ S g) : w'.ownsRow base 3 1 v n xs := by
  refine ⟨h.1, ?_⟩
  rcases h.2 with e | ⟨g, cap, cur, rfl, h1, h2, h3⟩
  · exact Or.inl e
  · have hg := (h.lt g rfl).2
    exact Or.inr ⟨g, cap, cur, rfl, h1, (hb.block g hg (hS g rfl)).trans h2, h3⟩
theorem grown_but {w' : World} {row : Option Nat} (h : w.grownBy w' row) : But (fun i => row = some i) w w' := ⟨h.os, h.tape, h.output, h.size, fun k hk hn => h.block k hk (fun e => hn e.symm)⟩
theorem freed_succ (k : Nat) : freed (k + 1) = freed k ++ [-1] := by unfold freed; rw [List.replicate_succ']
theorem turns_succ (k : Nat) : turns (k + 1) = turns k ++ [(k : Int)] := by unfold turns; rw [List.range_succ, List.map_append]; rfl
theorem Nr.first (h : Nr w base X k j oa oc fa fc) (hk : k ≤ 1000000) :
    ∃ g cap w2, (Builtin.append_ #[31, 31] 31 #[.slice oa k oc, .slice (some ⟨w.heap.size, 0, none⟩) 1 1]).run Try.prog (w.alloc (.cells #[.int .i64 (-1)] 3)) = .ok (.slice (some ⟨g, 0, none⟩) (k + 1) cap) w2 ∧
      Bv w2 X oa k oc fa j fc ∧ Nr (w2.setCell ⟨X, 0, none⟩ (.slice (some ⟨g, 0, none⟩) (k + 1) cap)) base X (k + 1) j (some ⟨g, 0, none⟩) cap fa fc ∧ (∀ B, B ≤ X → Below B w (w2.setCell ⟨X, 0, none⟩ (.slice (some ⟨g, 0, none⟩) (k + 1) cap))) := by
  obtain ⟨g, cap, w2, hr, h1, h2, h3⟩ := app_one h.o0 h.bs hk (-1) 31
  have hA : But (fun _ => False) w (w.alloc (.cells #[.int .i64 (-1)] 3)) := (But.refl _ w).alloc _
  have hB := grown_but h2
  have hX := h.xb
  have hs := h.bs
  have b2 : But (fun i => (Value.slice oa k oc).ownBlock = some i) w w2 := (hA.mono (fun _ _ q => q.elim)).trans (hB.mono (fun _ _ q => q) |>.mono (fun _ _ q => q))
  have v2 : Bv w2 X oa k oc fa j fc := h.lv.but b2 (fun e => by have := (h.o0.lt X e).1; omega)
  have bX := but_one w2 X 0 (.slice (some ⟨g, 0, none⟩) (k + 1) cap)
  have hg := (h1.lt g rfl)
  refine ⟨g, cap, w2, hr, v2, ⟨v2.set0 _ _ _, own_but (by rw [freed_succ]; exact h1) bX (fun q e => ?_), own_but (own_but h.o1 b2 (fun q e e2 => h.ne q e2 e)) bX (fun q e e2 => ?_), fun q e e2 => ?_, hX, Nat.le_trans hs (Nat.le_trans b2.size bX.size)⟩, fun B hB => ?_⟩
  · have := (h1.lt q e).1; omega
  · have := (h.o1.lt q e).1; omega
  · simp [Value.ownBlock] at e
    subst e
    rcases h3 with h3 | h3
    · exact h.ne g h3 e2
    · have := (h.o1.lt g e2).2; omega
  · exact (b2.below (by omega) (fun i hi e => by have := (h.o0.lt i e).1; omega)).trans (bX.one (by have := b2.size; omega) hB)
theorem Nr.second (h : Nr w base X k j oa oc fa fc) (hk : j ≤ 1000000) :
    ∃ g cap w2, (Builtin.append_ #[31, 31] 31 #[.slice fa j fc, .slice (some ⟨w.heap.size, 0, none⟩) 1 1]).run Try.prog (w.alloc (.cells #[.int .i64 (j : Int)] 3)) = .ok (.slice (some ⟨g, 0, none⟩) (j + 1) cap) w2 ∧
      Bv w2 X oa k oc fa j fc ∧ Nr (w2.setCell ⟨X, 1, none⟩ (.slice (some ⟨g, 0, none⟩) (j + 1) cap)) base X k (j + 1) oa oc (some ⟨g, 0, none⟩) cap ∧ (∀ B, B ≤ X → Below B w (w2.setCell ⟨X, 1, none⟩ (.slice (some ⟨g, 0, none⟩) (j + 1) cap))) := by
  obtain ⟨g, cap, w2, hr, h1, h2, h3⟩ := app_one h.o1 h.bs hk (j : Int) 31
  have hA : But (fun _ => False) w (w.alloc (.cells #[.int .i64 (j : Int)] 3)) := (But.refl _ w).alloc _
  have hB := grown_but h2
  have hX := h.xb
  have hs := h.bs
  have b2 : But (fun i => (Value.slice fa j fc).ownBlock = some i) w w2 := (hA.mono (fun _ _ q => q.elim)).trans hB
  have v2 : Bv w2 X oa k oc fa j fc := h.lv.but b2 (fun e => by have := (h.o1.lt X e).1; omega)
  have bX := but_one w2 X 1 (.slice (some ⟨g, 0, none⟩) (j + 1) cap)
  refine ⟨g, cap, w2, hr, v2, ⟨v2.set1 _ _ _, own_but (own_but h.o0 b2 (fun q e e2 => h.ne q e e2)) bX (fun q e e2 => ?_), own_but (by rw [turns_succ]; exact h1) bX (fun q e => ?_), fun q e e2 => ?_, hX, Nat.le_trans hs (Nat.le_trans b2.size bX.size)⟩, fun B hB => ?_⟩
  · have := (h.o0.lt q e).1; omega
  · have := (h1.lt q e).1; omega
  · simp [Value.ownBlock] at e2
    subst e2
    rcases h3 with h3 | h3
    · exact h.ne g e h3
    · have := (h.o0.lt g e).2; omega
  · exact (b2.below (by omega) (fun i hi e => by have := (h.o1.lt i e).1; omega)).trans (bX.one (by have := b2.size; omega) hB)
end
end Go.Proofs.Ytijkigibcpgciaa.Pl
