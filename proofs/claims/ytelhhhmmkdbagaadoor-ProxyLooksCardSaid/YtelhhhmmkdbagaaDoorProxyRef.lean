/-
  The document's own answers for package proxy (almeryref10): its table in memory ('Rp'), a variable that holds one ('Bv'), three rows that grow ('Nr').
-/
import Derived.Test.YtelhhhmmkdbagaaDoorProxyNum
import Derived.Test.YtelhhhmmkdbagaaDoorBools
namespace Go.Proofs.YtelhhhmmkdbagaaDoor
open Go.ChangeShapes Go.WideShapes Go.ChangeAt Go.RowKit Go.Deep

/-- Block q is a variable of four cells. -/
structure Bv (w : World) (q : Nat) (v0 v1 v2 v3 : Value) : Prop where
  c0 : w.cell? ⟨q, 0, none⟩ = some v0
  c1 : w.cell? ⟨q, 1, none⟩ = some v1
  c2 : w.cell? ⟨q, 2, none⟩ = some v2
  c3 : w.cell? ⟨q, 3, none⟩ = some v3
  f0 : w.frozen? ⟨q, 0, none⟩ = false
  f1 : w.frozen? ⟨q, 1, none⟩ = false
  f2 : w.frozen? ⟨q, 2, none⟩ = false
  f3 : w.frozen? ⟨q, 3, none⟩ = false
/-- All four cells are stored. -/
@[reducible] def set4 (w : World) (q : Nat) (v0 v1 v2 v3 : Value) : World := (((w.setCell ⟨q, 0, none⟩ v0).setCell ⟨q, 1, none⟩ v1).setCell ⟨q, 2, none⟩ v2).setCell ⟨q, 3, none⟩ v3
section
variable {w w' : World} {q : Nat} {v0 v1 v2 v3 : Value}
theorem Bv.size (h : Bv w q v0 v1 v2 v3) : q < w.heap.size := lt_of_cell (p := ⟨q, 0, none⟩) h.c0
theorem Bv.but {S : Nat → Prop} (h : Bv w q v0 v1 v2 v3) (hb : But S w w') (hn : ¬ S q) : Bv w' q v0 v1 v2 v3 :=
  ⟨(hb.cell (p := ⟨q, 0, none⟩) h.size hn).trans h.c0, (hb.cell (p := ⟨q, 1, none⟩) h.size hn).trans h.c1, (hb.cell (p := ⟨q, 2, none⟩) h.size hn).trans h.c2, (hb.cell (p := ⟨q, 3, none⟩) h.size hn).trans h.c3,
    (hb.frozen (p := ⟨q, 0, none⟩) h.size hn).trans h.f0, (hb.frozen (p := ⟨q, 1, none⟩) h.size hn).trans h.f1, (hb.frozen (p := ⟨q, 2, none⟩) h.size hn).trans h.f2, (hb.frozen (p := ⟨q, 3, none⟩) h.size hn).trans h.f3⟩
theorem Bv.below (h : Bv w q v0 v1 v2 v3) (hb : Below w.heap.size w w') : Bv w' q v0 v1 v2 v3 := h.but (Below.but hb fun _ => False) id
theorem Bv.new (w : World) (v0 v1 v2 v3 : Value) : Bv (w.alloc (.cells #[v0, v1, v2, v3] 29)) w.heap.size v0 v1 v2 v3 := ⟨by go_simp, by go_simp, by go_simp, by go_simp, by go_simp, by go_simp, by go_simp, by go_simp⟩
theorem Bv.set0 (h : Bv w q v0 v1 v2 v3) (u : Value) : Bv (w.setCell ⟨q, 0, none⟩ u) q u v1 v2 v3 :=
  ⟨World.cell?_setCell_same w ⟨q, 0, none⟩ _ h.c0, (World.cell?_setCell_other w ⟨q, 0, none⟩ ⟨q, 1, none⟩ _ (by simp)).trans h.c1, (World.cell?_setCell_other w ⟨q, 0, none⟩ ⟨q, 2, none⟩ _ (by simp)).trans h.c2, (World.cell?_setCell_other w ⟨q, 0, none⟩ ⟨q, 3, none⟩ _ (by simp)).trans h.c3,
    by simpa using h.f0, by simpa using h.f1, by simpa using h.f2, by simpa using h.f3⟩
theorem Bv.set1 (h : Bv w q v0 v1 v2 v3) (u : Value) : Bv (w.setCell ⟨q, 1, none⟩ u) q v0 u v2 v3 :=
  ⟨(World.cell?_setCell_other w ⟨q, 1, none⟩ ⟨q, 0, none⟩ _ (by simp)).trans h.c0, World.cell?_setCell_same w ⟨q, 1, none⟩ _ h.c1, (World.cell?_setCell_other w ⟨q, 1, none⟩ ⟨q, 2, none⟩ _ (by simp)).trans h.c2, (World.cell?_setCell_other w ⟨q, 1, none⟩ ⟨q, 3, none⟩ _ (by simp)).trans h.c3,
    by simpa using h.f0, by simpa using h.f1, by simpa using h.f2, by simpa using h.f3⟩
theorem Bv.set2 (h : Bv w q v0 v1 v2 v3) (u : Value) : Bv (w.setCell ⟨q, 2, none⟩ u) q v0 v1 u v3 :=
  ⟨(World.cell?_setCell_other w ⟨q, 2, none⟩ ⟨q, 0, none⟩ _ (by simp)).trans h.c0, (World.cell?_setCell_other w ⟨q, 2, none⟩ ⟨q, 1, none⟩ _ (by simp)).trans h.c1, World.cell?_setCell_same w ⟨q, 2, none⟩ _ h.c2, (World.cell?_setCell_other w ⟨q, 2, none⟩ ⟨q, 3, none⟩ _ (by simp)).trans h.c3,
    by simpa using h.f0, by simpa using h.f1, by simpa using h.f2, by simpa using h.f3⟩
theorem Bv.set3 (h : Bv w q v0 v1 v2 v3) (u : Value) : Bv (w.setCell ⟨q, 3, none⟩ u) q v0 v1 v2 u :=
  ⟨(World.cell?_setCell_other w ⟨q, 3, none⟩ ⟨q, 0, none⟩ _ (by simp)).trans h.c0, (World.cell?_setCell_other w ⟨q, 3, none⟩ ⟨q, 1, none⟩ _ (by simp)).trans h.c1, (World.cell?_setCell_other w ⟨q, 3, none⟩ ⟨q, 2, none⟩ _ (by simp)).trans h.c2, World.cell?_setCell_same w ⟨q, 3, none⟩ _ h.c3,
    by simpa using h.f0, by simpa using h.f1, by simpa using h.f2, by simpa using h.f3⟩
theorem Bv.set (h : Bv w q v0 v1 v2 v3) (u0 u1 u2 u3 : Value) : Bv (set4 w q u0 u1 u2 u3) q u0 u1 u2 u3 := (((h.set0 u0).set1 u1).set2 u2).set3 u3
end
theorem but_one (w : World) (q i : Nat) (u : Value) : But (· = q) w (w.setCell ⟨q, i, none⟩ u) := (But.refl (· = q) w).setCell (p := ⟨q, i, none⟩) (fun _ => rfl) u
theorem but_four (w : World) (q : Nat) (v0 v1 v2 v3 : Value) : But (· = q) w (set4 w q v0 v1 v2 v3) := (((but_one w q 0 v0).setCell (p := ⟨q, 1, none⟩) (fun _ => rfl) v1).setCell (p := ⟨q, 2, none⟩) (fun _ => rfl) v2).setCell (p := ⟨q, 3, none⟩) (fun _ => rfl) v3

/-- The document's table, of which it is known in which blocks it lies. -/
structure Rp (w : World) (P : Nat → Prop) (ga : Option Addr) (gc : Nat) (la : Option Addr) (lc : Nat) (fa : Option Addr) (fc n K : Nat) (T : Tb) : Prop where
  gens : Ints w w.heap.size ga K T.G
  live : Bools w w.heap.size la K T.L
  free : Ints w w.heap.size fa n T.fl
  gc_ : K ≤ gc
  lc_ : K ≤ lc
  fc_ : n ≤ fc
  lt : ∀ k, P k → k < w.heap.size
  pg : 0 < K → ∃ b o, ga = some ⟨b, o, none⟩ ∧ P b
  pl : 0 < K → ∃ b o, la = some ⟨b, o, none⟩ ∧ P b
  pf : 0 < n → ∃ b o, fa = some ⟨b, o, none⟩ ∧ P b
section
variable {w w' : World} {P Q S : Nat → Prop} {ga la fa : Option Addr} {gc lc fc n K : Nat} {T : Tb}
theorem Rp.but (h : Rp w P ga gc la lc fa fc n K T) (hb : But S w w') (hS : ∀ k, P k → ¬ S k) : Rp w' P ga gc la lc fa fc n K T :=
  ⟨(h.gens.far hb (Nat.le_refl _) fun q => by obtain ⟨b, o, e, hp⟩ := h.pg q; exact ⟨b, o, e, hS b hp⟩).more hb.size,
    (h.live.far hb (Nat.le_refl _) fun q => by obtain ⟨b, o, e, hp⟩ := h.pl q; exact ⟨b, o, e, hS b hp⟩).more hb.size,
    (h.free.far hb (Nat.le_refl _) fun q => by obtain ⟨b, o, e, hp⟩ := h.pf q; exact ⟨b, o, e, hS b hp⟩).more hb.size,
    h.gc_, h.lc_, h.fc_, fun k hk => Nat.lt_of_lt_of_le (h.lt k hk) hb.size, h.pg, h.pl, h.pf⟩
theorem Rp.on (h : Rp w P ga gc la lc fa fc n K T) (hb : Below w.heap.size w w') : Rp w' P ga gc la lc fa fc n K T := h.but (Below.but hb fun _ => False) fun _ _ q => q
end
/-- The document's table, as a value. -/
abbrev tv (ga : Option Addr) (gc : Nat) (la : Option Addr) (lc : Nat) (fa : Option Addr) (fc n K : Nat) (M : Int) : Value := .agg #[.slice ga K gc, .slice la K lc, .slice fa n fc, .int .i64 M]

/-- How an act of the document's ends: its table is that of r. -/
def RefGive (P : Nat → Prop) (K : Nat) (M : Int) (r : Tb × Int) (w : World) (e : Ending) (w' : World) : Prop :=
  ∃ ga gc la lc fa fc n Q, e = .returned (.tuple #[.agg #[.slice ga K gc, .slice la K lc, .slice fa n fc, .int .i64 M], .int .i64 r.2]) ∧ Rp w' Q ga gc la lc fa fc n K r.1 ∧ Below w.heap.size w w' ∧ ∀ k, Q k → P k ∨ w.heap.size ≤ k
def RefTake (P : Nat → Prop) (K : Nat) (M : Int) (r : Tb × Int × Int × Int) (w : World) (e : Ending) (w' : World) : Prop :=
  ∃ ga gc la lc fa fc n Q, e = .returned (.tuple #[.agg #[.slice ga K gc, .slice la K lc, .slice fa n fc, .int .i64 M], .int .i64 r.2.1, .int .i64 r.2.2.1, .int .i64 r.2.2.2]) ∧ Rp w' Q ga gc la lc fa fc n K r.1 ∧ Below w.heap.size w w' ∧ ∀ k, Q k → P k ∨ w.heap.size ≤ k

/-! ### New -/
/-- Generations, bools and free ones grow, each in a row of the call's own, in a variable of the call's. -/
structure Nr (w : World) (base X i j k : Nat) (ga : Option Addr) (gc : Nat) (la : Option Addr) (lc : Nat) (fa : Option Addr) (fc : Nat) (M : Int) : Prop where
  lv : Bv w X (.slice ga i gc) (.slice la j lc) (.slice fa k fc) (.int .i64 M)
  o0 : w.ownsRow base 3 1 (.slice ga i gc) i ((List.replicate i (1 : Int)).map (Value.int .i64))
  o1 : w.ownsRow base 4 1 (.slice la j lc) j ((List.replicate j false).map Value.bool)
  o2 : w.ownsRow base 3 1 (.slice fa k fc) k ((turns k).map (Value.int .i64))
  n01 : ∀ g, (Value.slice ga i gc).ownBlock = some g → (Value.slice la j lc).ownBlock ≠ some g
  n02 : ∀ g, (Value.slice ga i gc).ownBlock = some g → (Value.slice fa k fc).ownBlock ≠ some g
  n12 : ∀ g, (Value.slice la j lc).ownBlock = some g → (Value.slice fa k fc).ownBlock ≠ some g
  xb : X < base
  bs : base ≤ w.heap.size
section
variable {w : World} {base X i j k gc lc fc : Nat} {ga la fa : Option Addr} {M : Int}
theorem own_but {S : Nat → Prop} {w' : World} {v : Value} {n : Nat} {xs : List Value} {t : TypeId} (h : w.ownsRow base t 1 v n xs) (hb : But S w w') (hS : ∀ g, v.ownBlock = some g → ¬ S g) : w'.ownsRow base t 1 v n xs := by
  refine ⟨h.1, ?_⟩
  rcases h.2 with e | ⟨g, cap, cur, rfl, h1, h2, h3⟩
  · exact Or.inl e
  · have hg := (h.lt g rfl).2
    exact Or.inr ⟨g, cap, cur, rfl, h1, (hb.block g hg (hS g rfl)).trans h2, h3⟩
theorem grown_but {w' : World} {row : Option Nat} (h : w.grownBy w' row) : But (fun i => row = some i) w w' := ⟨h.os, h.tape, h.output, h.size, fun k hk hn => h.block k hk (fun e => hn e.symm)⟩
theorem rep_succ {α : Type} (k : Nat) (x : α) : List.replicate (k + 1) x = List.replicate k x ++ [x] := List.replicate_succ'
theorem turns_succ (k : Nat) : turns (k + 1) = turns k ++ [(k : Int)] := by unfold turns; rw [List.range_succ, List.map_append]; rfl
theorem Nr.first (h : Nr w base X i j k ga gc la lc fa fc M) (hk : i ≤ 1000000) :
    ∃ g cap w2, (Builtin.append_ #[26, 26] 26 #[.slice ga i gc, .slice (some ⟨w.heap.size, 0, none⟩) 1 1]).run Tryd.prog (w.alloc (.cells #[.int .i64 1] 3)) = .ok (.slice (some ⟨g, 0, none⟩) (i + 1) cap) w2 ∧
      Bv w2 X (.slice ga i gc) (.slice la j lc) (.slice fa k fc) (.int .i64 M) ∧ Nr (w2.setCell ⟨X, 0, none⟩ (.slice (some ⟨g, 0, none⟩) (i + 1) cap)) base X (i + 1) j k (some ⟨g, 0, none⟩) cap la lc fa fc M ∧ (∀ B, B ≤ X → Below B w (w2.setCell ⟨X, 0, none⟩ (.slice (some ⟨g, 0, none⟩) (i + 1) cap))) := by
  obtain ⟨g, cap, w2, hr, h1, h2, h3⟩ := app_one h.o0 h.bs hk (1 : Int) 26
  have hA : But (fun _ => False) w (w.alloc (.cells #[.int .i64 1] 3)) := (But.refl _ w).alloc _
  have hB := grown_but h2
  have hX := h.xb
  have hs := h.bs
  have b2 : But (fun x => (Value.slice ga i gc).ownBlock = some x) w w2 := (hA.mono (fun _ _ q => q.elim)).trans hB
  have v2 : Bv w2 X (.slice ga i gc) (.slice la j lc) (.slice fa k fc) (.int .i64 M) := h.lv.but b2 (fun e => by have := (h.o0.lt X e).1; omega)
  have bX := but_one w2 X 0 (.slice (some ⟨g, 0, none⟩) (i + 1) cap)
  have new1 : ∀ q, (Value.slice (some ⟨g, 0, none⟩) (i + 1) cap).ownBlock = some q → (Value.slice la j lc).ownBlock = some q → False := fun q e e2 => by
    simp [Value.ownBlock] at e
    subst e
    rcases h3 with h3 | h3
    · exact h.n01 g h3 e2
    · have := (h.o1.lt g e2).2; omega
  have new2 : ∀ q, (Value.slice (some ⟨g, 0, none⟩) (i + 1) cap).ownBlock = some q → (Value.slice fa k fc).ownBlock = some q → False := fun q e e2 => by
    simp [Value.ownBlock] at e
    subst e
    rcases h3 with h3 | h3
    · exact h.n02 g h3 e2
    · have := (h.o2.lt g e2).2; omega
  refine ⟨g, cap, w2, hr, v2, ⟨v2.set0 _, own_but (by rw [rep_succ]; exact h1) bX (fun q e e2 => by have := (h1.lt q e).1; omega), own_but (own_but h.o1 b2 (fun q e e2 => h.n01 q e2 e)) bX (fun q e e2 => by have := (h.o1.lt q e).1; omega), own_but (own_but h.o2 b2 (fun q e e2 => h.n02 q e2 e)) bX (fun q e e2 => by have := (h.o2.lt q e).1; omega), fun q e e2 => new1 q e e2, fun q e e2 => new2 q e e2, h.n12, hX, Nat.le_trans hs (Nat.le_trans b2.size bX.size)⟩, fun B hB => ?_⟩
  exact (b2.below (by omega) (fun x hx e => by have := (h.o0.lt x e).1; omega)).trans (bX.one (by have := b2.size; omega) hB)
theorem Nr.second (h : Nr w base X i j k ga gc la lc fa fc M) (hk : j ≤ 1000000) :
    ∃ g cap w2, (Builtin.append_ #[27, 27] 27 #[.slice la j lc, .slice (some ⟨w.heap.size, 0, none⟩) 1 1]).run Tryd.prog (w.alloc (.cells #[.bool false] 4)) = .ok (.slice (some ⟨g, 0, none⟩) (j + 1) cap) w2 ∧
      Bv w2 X (.slice ga i gc) (.slice la j lc) (.slice fa k fc) (.int .i64 M) ∧ Nr (w2.setCell ⟨X, 1, none⟩ (.slice (some ⟨g, 0, none⟩) (j + 1) cap)) base X i (j + 1) k ga gc (some ⟨g, 0, none⟩) cap fa fc M ∧ (∀ B, B ≤ X → Below B w (w2.setCell ⟨X, 1, none⟩ (.slice (some ⟨g, 0, none⟩) (j + 1) cap))) := by
  obtain ⟨g, cap, w2, hr, h1, h2, h3⟩ := app_oneB h.o1 h.bs hk false 27
  have hA : But (fun _ => False) w (w.alloc (.cells #[.bool false] 4)) := (But.refl _ w).alloc _
  have hB := grown_but h2
  have hX := h.xb
  have hs := h.bs
  have b2 : But (fun x => (Value.slice la j lc).ownBlock = some x) w w2 := (hA.mono (fun _ _ q => q.elim)).trans hB
  have v2 : Bv w2 X (.slice ga i gc) (.slice la j lc) (.slice fa k fc) (.int .i64 M) := h.lv.but b2 (fun e => by have := (h.o1.lt X e).1; omega)
  have bX := but_one w2 X 1 (.slice (some ⟨g, 0, none⟩) (j + 1) cap)
  have new0 : ∀ q, (Value.slice (some ⟨g, 0, none⟩) (j + 1) cap).ownBlock = some q → (Value.slice ga i gc).ownBlock = some q → False := fun q e e2 => by
    simp [Value.ownBlock] at e
    subst e
    rcases h3 with h3 | h3
    · exact h.n01 g e2 h3
    · have := (h.o0.lt g e2).2; omega
  have new2 : ∀ q, (Value.slice (some ⟨g, 0, none⟩) (j + 1) cap).ownBlock = some q → (Value.slice fa k fc).ownBlock = some q → False := fun q e e2 => by
    simp [Value.ownBlock] at e
    subst e
    rcases h3 with h3 | h3
    · exact h.n12 g h3 e2
    · have := (h.o2.lt g e2).2; omega
  refine ⟨g, cap, w2, hr, v2, ⟨v2.set1 _, own_but (own_but h.o0 b2 (fun q e e2 => h.n01 q e e2)) bX (fun q e e2 => by have := (h.o0.lt q e).1; omega), own_but (by rw [rep_succ]; exact h1) bX (fun q e e2 => by have := (h1.lt q e).1; omega), own_but (own_but h.o2 b2 (fun q e e2 => h.n12 q e2 e)) bX (fun q e e2 => by have := (h.o2.lt q e).1; omega), fun q e e2 => new0 q e2 e, h.n02, fun q e e2 => new2 q e e2, hX, Nat.le_trans hs (Nat.le_trans b2.size bX.size)⟩, fun B hB => ?_⟩
  exact (b2.below (by omega) (fun x hx e => by have := (h.o1.lt x e).1; omega)).trans (bX.one (by have := b2.size; omega) hB)
theorem Nr.third (h : Nr w base X i j k ga gc la lc fa fc M) (hk : k ≤ 1000000) :
    ∃ g cap w2, (Builtin.append_ #[26, 26] 26 #[.slice fa k fc, .slice (some ⟨w.heap.size, 0, none⟩) 1 1]).run Tryd.prog (w.alloc (.cells #[.int .i64 (k : Int)] 3)) = .ok (.slice (some ⟨g, 0, none⟩) (k + 1) cap) w2 ∧
      Bv w2 X (.slice ga i gc) (.slice la j lc) (.slice fa k fc) (.int .i64 M) ∧ Nr (w2.setCell ⟨X, 2, none⟩ (.slice (some ⟨g, 0, none⟩) (k + 1) cap)) base X i j (k + 1) ga gc la lc (some ⟨g, 0, none⟩) cap M ∧ (∀ B, B ≤ X → Below B w (w2.setCell ⟨X, 2, none⟩ (.slice (some ⟨g, 0, none⟩) (k + 1) cap))) := by
  obtain ⟨g, cap, w2, hr, h1, h2, h3⟩ := app_one h.o2 h.bs hk (k : Int) 26
  have hA : But (fun _ => False) w (w.alloc (.cells #[.int .i64 (k : Int)] 3)) := (But.refl _ w).alloc _
  have hB := grown_but h2
  have hX := h.xb
  have hs := h.bs
  have b2 : But (fun x => (Value.slice fa k fc).ownBlock = some x) w w2 := (hA.mono (fun _ _ q => q.elim)).trans hB
  have v2 : Bv w2 X (.slice ga i gc) (.slice la j lc) (.slice fa k fc) (.int .i64 M) := h.lv.but b2 (fun e => by have := (h.o2.lt X e).1; omega)
  have bX := but_one w2 X 2 (.slice (some ⟨g, 0, none⟩) (k + 1) cap)
  have new0 : ∀ q, (Value.slice (some ⟨g, 0, none⟩) (k + 1) cap).ownBlock = some q → (Value.slice ga i gc).ownBlock = some q → False := fun q e e2 => by
    simp [Value.ownBlock] at e
    subst e
    rcases h3 with h3 | h3
    · exact h.n02 g e2 h3
    · have := (h.o0.lt g e2).2; omega
  have new1 : ∀ q, (Value.slice (some ⟨g, 0, none⟩) (k + 1) cap).ownBlock = some q → (Value.slice la j lc).ownBlock = some q → False := fun q e e2 => by
    simp [Value.ownBlock] at e
    subst e
    rcases h3 with h3 | h3
    · exact h.n12 g e2 h3
    · have := (h.o1.lt g e2).2; omega
  refine ⟨g, cap, w2, hr, v2, ⟨v2.set2 _, own_but (own_but h.o0 b2 (fun q e e2 => h.n02 q e e2)) bX (fun q e e2 => by have := (h.o0.lt q e).1; omega), own_but (own_but h.o1 b2 (fun q e e2 => h.n12 q e e2)) bX (fun q e e2 => by have := (h.o1.lt q e).1; omega), own_but (by rw [turns_succ]; exact h1) bX (fun q e e2 => by have := (h1.lt q e).1; omega), h.n01, fun q e e2 => new0 q e2 e, fun q e e2 => new1 q e2 e, hX, Nat.le_trans hs (Nat.le_trans b2.size bX.size)⟩, fun B hB => ?_⟩
  exact (b2.below (by omega) (fun x hx e => by have := (h.o2.lt x e).1; omega)).trans (bX.one (by have := b2.size; omega) hB)
end
end Go.Proofs.YtelhhhmmkdbagaaDoor
