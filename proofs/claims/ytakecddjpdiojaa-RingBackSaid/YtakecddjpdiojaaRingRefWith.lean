/-
  The document's own answers for package ring (almeryref07): with.
-/
import Derived.Test.YtakecddjpdiojaaRingRefTell
import Derived.Test.YtakecddjpdiojaaRingApp
namespace Go.Proofs.Ytakecddjpdiojaa
open Go.ChangeShapes Go.WideShapes Go.ChangeAt Go.RowKit Go.Deep

/-- Block q is a variable that holds the document's lists. -/
structure Lv (w : World) (q : Nat) (a : Option Addr) (n c : Nat) (s : Int) : Prop where
  c0 : w.cell? ⟨q, 0, none⟩ = some (.slice a n c)
  c1 : w.cell? ⟨q, 1, none⟩ = some (.int .i64 s)
  f0 : w.frozen? ⟨q, 0, none⟩ = false
  f1 : w.frozen? ⟨q, 1, none⟩ = false
section
variable {w w' : World} {q n c : Nat} {a : Option Addr} {s : Int}
theorem Lv.but {S : Nat → Prop} (h : Lv w q a n c s) (hb : But S w w') (hn : ¬ S q) : Lv w' q a n c s :=
  have hq : q < w.heap.size := lt_of_cell (p := ⟨q, 0, none⟩) h.c0
  ⟨(hb.cell (p := ⟨q, 0, none⟩) hq hn).trans h.c0, (hb.cell (p := ⟨q, 1, none⟩) hq hn).trans h.c1, (hb.frozen (p := ⟨q, 0, none⟩) hq hn).trans h.f0, (hb.frozen (p := ⟨q, 1, none⟩) hq hn).trans h.f1⟩
theorem Lv.below (h : Lv w q a n c s) (hb : Below w.heap.size w w') : Lv w' q a n c s := h.but (Below.but hb fun _ => False) id
/-- Kept by what leaves all below B, where the block lies. -/
theorem Lv.under {B : Nat} (h : Lv w q a n c s) (hb : Below B w w') (hq : q < B) : Lv w' q a n c s :=
  ⟨(hb.cell (p := ⟨q, 0, none⟩) hq).trans h.c0, (hb.cell (p := ⟨q, 1, none⟩) hq).trans h.c1, (World.frozen?_of_block (w := w) (hb.block q hq)).trans h.f0, (World.frozen?_of_block (w := w) (hb.block q hq)).trans h.f1⟩
theorem Lv.new (w : World) (a : Option Addr) (n c : Nat) (s : Int) : Lv (w.alloc (.cells #[.slice a n c, .int .i64 s] 30)) w.heap.size a n c s := ⟨by go_simp, by go_simp, by go_simp, by go_simp⟩
theorem Lv.set (h : Lv w q a n c s) (a' : Option Addr) (n' c' : Nat) (s' : Int) : Lv ((w.setCell ⟨q, 0, none⟩ (.slice a' n' c')).setCell ⟨q, 1, none⟩ (.int .i64 s')) q a' n' c' s' :=
  ⟨(World.cell?_setCell_other _ ⟨q, 1, none⟩ ⟨q, 0, none⟩ _ (by simp)).trans (World.cell?_setCell_same w ⟨q, 0, none⟩ _ h.c0),
    World.cell?_setCell_same _ ⟨q, 1, none⟩ _ ((World.cell?_setCell_other w ⟨q, 0, none⟩ ⟨q, 1, none⟩ _ (by simp)).trans h.c1), by simpa using h.f0, by simpa using h.f1⟩
end
theorem but_two (w : World) (q : Nat) (u v : Value) : But (· = q) w ((w.setCell ⟨q, 0, none⟩ u).setCell ⟨q, 1, none⟩ v) := ((But.refl (· = q) w).setCell (p := ⟨q, 0, none⟩) (fun _ => rfl) u).setCell (p := ⟨q, 1, none⟩) (fun _ => rfl) v

section
variable {w w' : World} {B M : Nat} {L : List (List Int)}
/-- Lists kept while blocks that hold none of them turn: all that they lie in is below B. -/
theorem Lss.far {b o : Nat} (h : Lss w B (some ⟨b, o, none⟩) M L) (hb : Below B w w') : Lss w' B (some ⟨b, o, none⟩) M L := h.below hb
/-- The lists' slices, as values. -/
theorem Lss.vals {b o : Nat} (h : Lss w B (some ⟨b, o, none⟩) M L) : ∃ f : Nat → Value, ∀ k, k < M → ∃ ra rn rc, f k = .slice ra rn rc ∧ w.cell? ⟨b, o + k, none⟩ = some (f k) ∧ rn ≤ rc ∧ ∀ x, L[k]? = some x → Ints w B ra rn x := by
  obtain ⟨f, hf⟩ := choose_lt (α := Value) (n := M) (p := fun k v => ∃ ra rn rc, v = .slice ra rn rc ∧ w.cell? ⟨b, o + k, none⟩ = some v ∧ rn ≤ rc ∧ ∀ x, L[k]? = some x → Ints w B ra rn x) (fun k hk => by
    obtain ⟨b', o', e, _, hc⟩ := h.head (by omega)
    injection e with e
    injection e with e1 e2
    subst e1 e2
    have hl : k < L.length := by rw [h.len]; exact hk
    obtain ⟨ra, rn, rc, h1, h2, h3⟩ := hc k _ (List.getElem?_eq_getElem hl)
    exact ⟨_, ra, rn, rc, rfl, h1, h2, fun x hx => by rw [List.getElem?_eq_getElem hl] at hx; cases hx; exact h3⟩)
  exact ⟨f, fun k hk => hf k hk⟩
end

/-- How one that lays lists ends: block g has the lists' slices, but for one. -/
def Lays (M : Nat) (s : Int) (i : Nat) (v : Value) (b o : Nat) (w : World) (e : Ending) (w' : World) : Prop :=
  ∃ g cap, e = .returned (.agg #[.slice (some ⟨g, 0, none⟩) M cap, .int .i64 s]) ∧ w.heap.size ≤ g ∧ g < w'.heap.size ∧ M ≤ cap ∧ Below w.heap.size w w' ∧ ∀ k, k < M → w'.cell? ⟨g, k, none⟩ = if k = i then some v else w.cell? ⟨b, o + k, none⟩

theorem refWith_any {w : World} {M : Nat} {L : List (List Int)} (b o : Nat) (c : Nat) (s : Int) (h : Lss w w.heap.size (some ⟨b, o, none⟩) M L) (i : Nat) (hi : i < M) (xa : Option Addr) (xn xc : Nat) :
    Calls Try.prog 32 #[.agg #[.slice (some ⟨b, o, none⟩) M c, .int .i64 s], .int .i64 (i : Int), .slice xa xn xc] w (Lays M s i (.slice xa xn xc) b o w) := by
  obtain ⟨a, ha⟩ : ∃ a : Option Addr, a = some ⟨b, o, none⟩ := ⟨_, rfl⟩
  rw [← ha] at h ⊢
  obtain ⟨V1, hV1⟩ : ∃ V1 : Obj, V1 = .cells #[.slice a M c, .int .i64 s] 30 := ⟨_, rfl⟩
  obtain ⟨W, hW⟩ : ∃ W : World, W = (w.alloc (.cells #[.slice a M c, .int .i64 s] 30)).alloc (.cells #[.slice none 0 0, .int .i64 0] 30) := ⟨_, rfl⟩
  have bW : Below w.heap.size w W := by rw [hW]; exact below2 w _ _
  have sW : W.heap.size = w.heap.size + 2 := by rw [hW]; simp
  have X0 : Lv W w.heap.size a M c s := by rw [hW]; exact (Lv.new w a M c s).below (below1 _ _)
  have Z0 : Lv W (w.heap.size + 1) none 0 0 0 := by
    rw [hW]
    have := Lv.new (w.alloc (.cells #[.slice a M c, .int .i64 s] 30)) none 0 0 0
    simpa using this
  have hM := h.max
  subst ha
  obtain ⟨b', o', e, hb, hh⟩ := h.head (by omega)
  injection e with e
  injection e with e1 e2
  subst e1 e2
  clear hh
  obtain ⟨f, hf⟩ := h.vals
  have hget : ∀ (j : Nat) (u : Value), ((List.range M).map f)[j]? = some u → j < M ∧ u = f j := fun j u hu => by
    rw [List.getElem?_map] at hu
    by_cases hj : j < M
    · rw [List.getElem?_range hj] at hu
      simp at hu
      exact ⟨hj, hu.symm⟩
    · rw [List.getElem?_eq_none (by simpa using hj)] at hu
      simp at hu
  obtain ⟨g, cap, w3, hrun, hcell, hfree, b3, hcap, hg, hg2⟩ := app_rows (w := W) (b := b) (o := o) (M := M) (c := c) (vs := (List.range M).map f) (by simp) (by omega) hM (by omega)
    (fun j u hu => by
      obtain ⟨hj, rfl⟩ := hget j u hu
      obtain ⟨_, _, _, _, hc, _⟩ := hf j hj
      exact (bW.cell (p := ⟨b, o + j, none⟩) hb).trans hc)
    (fun u hu => by
      obtain ⟨j, hj, rfl⟩ := List.mem_map.1 hu
      obtain ⟨_, _, _, e, _⟩ := hf j (by simpa using hj)
      rw [e]; rfl) 28
  have hrow : ∀ j, j < M → w3.cell? ⟨g, j, none⟩ = some (f j) := fun j hj => hcell j (f j) (by rw [List.getElem?_map, List.getElem?_range hj]; rfl)
  have X3 := Lib.hid (X0.below b3)
  have Z3 := Lib.hid (Z0.below b3)
  have HB := Lib.hid (belowT bW b3)
  have HG := Lib.hid (show w.heap.size + 2 ≤ g by omega)
  have HG2 := Lib.hid hg2
  have HC := Lib.hid hcap
  have HR := Lib.hid hrow
  have HF := Lib.hid hf
  have HFR := Lib.hid hfree
  have HL := Lib.hid h
  have BW := Lib.hid bW
  have b4 : But (· = g) w3 (w3.setCell ⟨g, i, none⟩ (.slice xa xn xc)) := (But.refl (· = g) w3).setCell (p := ⟨g, i, none⟩) (fun _ => rfl) _
  have B4 := Lib.hid b4
  obtain ⟨p0, p1, p2, p3⟩ := X3.out.but b4 (fun e => by have := HG.out; omega)
  obtain ⟨q0, q1, q2, q3⟩ := Z3.out.but b4 (fun e => by have := HG.out; omega)
  have k0 := hrow i hi
  have k1 := hfree i
  rw [hW] at hrun
  simp at hrun
  have HRN := Lib.hid hrun
  clear h hf hget hrun hcell hfree hcap hg hrow X0 Z0 bW sW hW hV1 V1 b3 hg2 b4
  go_enter Try.func32, Try.ntmps32
  go_wp2_with (at_builtin; refine wpList_append_run rfl _ _ rfl rfl rfl rfl HRN.out ?_)
  refine bodyPost_ret (v := .agg #[.slice (some ⟨g, 0, none⟩) M cap, .int .i64 s]) (by simp [results, Try.results32, go_sem, q0, q1]) rfl ?_
  have hlt : w.heap.size + 1 < (w3.setCell ⟨g, i, none⟩ (.slice xa xn xc)).heap.size := lt_of_cell (p := ⟨w.heap.size + 1, 0, none⟩) q0
  have hkg := World.cell?_setCell_same w3 ⟨g, i, none⟩ (.slice xa xn xc) k0
  have hko : ∀ k, k ≠ i → (w3.setCell ⟨g, i, none⟩ (.slice xa xn xc)).cell? ⟨g, k, none⟩ = w3.cell? ⟨g, k, none⟩ := fun k hk => World.cell?_setCell_other w3 ⟨g, i, none⟩ ⟨g, k, none⟩ _ (by simp <;> omega)
  have b4 := B4.out
  generalize w3.setCell ⟨g, i, none⟩ (.slice xa xn xc) = w4 at b4 hlt hkg hko ⊢
  have bb : But (fun j => j = w.heap.size ∨ j = w.heap.size + 1) w4 _ := (((But.refl _ w4).setCell (p := ⟨w.heap.size, 0, none⟩) (fun _ => Or.inl rfl) (.slice (some ⟨g, 0, none⟩) M cap)).setCell (p := ⟨w.heap.size + 1, 0, none⟩) (fun _ => Or.inr rfl) (.slice (some ⟨g, 0, none⟩) M cap)).setCell (p := ⟨w.heap.size + 1, 1, none⟩) (fun _ => Or.inr rfl) (.int .i64 s)
  generalize ((w4.setCell ⟨w.heap.size, 0, none⟩ (.slice (some ⟨g, 0, none⟩) M cap)).setCell ⟨w.heap.size + 1, 0, none⟩ (.slice (some ⟨g, 0, none⟩) M cap)).setCell ⟨w.heap.size + 1, 1, none⟩ (.int .i64 s) = w5 at bb ⊢
  have hg := HG.out
  have hg4 : g < w4.heap.size := Nat.lt_of_lt_of_le HG2.out b4.size
  have B5 : Below w.heap.size w w5 := (HB.out.trans (b4.one HB.out.size (by omega))).trans (bb.below (by omega) (fun k hk e => by omega))
  have hll := HL.out.len
  have hgn : ¬ (g = w.heap.size ∨ g = w.heap.size + 1) := by omega
  refine ⟨g, cap, rfl, by omega, Nat.lt_of_lt_of_le hg4 bb.size, HC.out, B5, fun k hk => ?_⟩
  by_cases e : k = i
  · subst e
    rw [if_pos rfl]
    exact (bb.cell (p := ⟨g, k, none⟩) hg4 hgn).trans hkg
  · rw [if_neg e]
    obtain ⟨ra, rn, rc, f1, f2, f3, f4⟩ := HF.out k hk
    rw [f2]
    exact (bb.cell (p := ⟨g, k, none⟩) hg4 hgn).trans ((hko k e).trans (HR.out k hk))

/-- The document's lists, of which it is known in which blocks they lie. -/
structure Lsp (w : World) (P : Nat → Prop) (a : Option Addr) (n : Nat) (L : List (List Int)) : Prop where
  base : Lss w w.heap.size a n L
  lt : ∀ k, P k → k < w.heap.size
  head : ∀ b o, a = some ⟨b, o, none⟩ → P b
  rows : ∀ b o, a = some ⟨b, o, none⟩ → ∀ k ra rn rc, k < n → w.cell? ⟨b, o + k, none⟩ = some (.slice ra rn rc) → 0 < rn → ∃ rb ro, ra = some ⟨rb, ro, none⟩ ∧ P rb
section
variable {w w' : World} {P Q S : Nat → Prop} {a : Option Addr} {n : Nat} {L : List (List Int)}
theorem Ints.butAt {B b o : Nat} {xs : List Int} (h : Ints w B (some ⟨b, o, none⟩) n xs) (hb : But S w w') (hB : B ≤ w.heap.size) (hn : ¬ S b) : Ints w' B (some ⟨b, o, none⟩) n xs :=
  ⟨h.1, h.2.1, h.2.2.1, fun h0 => by
    obtain ⟨b', o', e, hl, hc⟩ := h.2.2.2 h0
    injection e with e
    injection e with e1 e2
    subst e1 e2
    exact ⟨b, o, rfl, hl, fun k s hs => (hb.cell (p := ⟨b, o + k, none⟩) (by show b < _; omega) hn).trans (hc k s hs)⟩⟩
theorem Ints.far {B : Nat} {xs : List Int} (h : Ints w B a n xs) (hb : But S w w') (hB : B ≤ w.heap.size) (hn : 0 < n → ∃ f o, a = some ⟨f, o, none⟩ ∧ ¬ S f) : Ints w' B a n xs := by
  by_cases h0 : 0 < n
  · obtain ⟨f, o, rfl, hf⟩ := hn h0
    exact h.butAt hb hB hf
  · exact ⟨h.1, h.2.1, h.2.2.1, fun q => absurd q h0⟩
theorem Lsp.but (h : Lsp w P a n L) (hb : But S w w') (hS : ∀ k, P k → ¬ S k) : Lsp w' P a n L := by
  refine ⟨⟨h.base.len, h.base.max, h.base.most, fun hn => ?_⟩, fun k hk => Nat.lt_of_lt_of_le (h.lt k hk) hb.size, h.head, fun b o e k ra rn rc hk hc h0 => ?_⟩
  · obtain ⟨b, o, e, hB, hc⟩ := h.base.head hn
    subst e
    have hP := h.head b o rfl
    refine ⟨b, o, rfl, Nat.lt_of_lt_of_le hB hb.size, fun k x hx => ?_⟩
    obtain ⟨ra, rn, rc, h1, h2, h3⟩ := hc k x hx
    have hk : k < n := by rw [← h.base.len]; exact (List.getElem?_eq_some_iff.1 hx).1
    refine ⟨ra, rn, rc, (hb.cell (p := ⟨b, o + k, none⟩) hB (hS _ hP)).trans h1, h2, (h3.far hb (Nat.le_refl _) fun q => ?_).more hb.size⟩
    obtain ⟨rb, ro, e, hr⟩ := h.rows b o rfl k ra rn rc hk h1 q
    exact ⟨rb, ro, e, hS _ hr⟩
  · subst e
    have hP := h.head b o rfl
    exact h.rows b o rfl k ra rn rc hk ((hb.cell (p := ⟨b, o + k, none⟩) (h.lt _ hP) (hS _ hP)).symm.trans hc) h0
theorem Lsp.on (h : Lsp w P a n L) (hb : Below w.heap.size w w') : Lsp w' P a n L := h.but (Below.but hb fun _ => False) fun _ _ q => q
theorem Lsp.mono (h : Lsp w P a n L) (hP : ∀ k, P k → Q k) (hQ : ∀ k, Q k → k < w.heap.size) : Lsp w Q a n L :=
  ⟨h.base, hQ, fun b o e => hP _ (h.head b o e), fun b o e k ra rn rc hk hc h0 => by
    obtain ⟨rb, ro, e1, e2⟩ := h.rows b o e k ra rn rc hk hc h0
    exact ⟨rb, ro, e1, hP _ e2⟩⟩
theorem lsp_with {b o g i : Nat} {xa : Option Addr} {xn xc : Nat} {x : List Int} (h : Lsp w P (some ⟨b, o, none⟩) n L) (hi : i < n) (hb : Below w.heap.size w w') (hg2 : g < w'.heap.size)
    (hc : ∀ k, k < n → w'.cell? ⟨g, k, none⟩ = if k = i then some (.slice xa xn xc) else w.cell? ⟨b, o + k, none⟩) (hx : Ints w w.heap.size xa xn x) (hxc : xn ≤ xc) (hm : xn ≤ 1000000) (hf : 0 < xn → ∃ f o, xa = some ⟨f, o, none⟩ ∧ P f) :
    Lsp w' (fun k => P k ∨ k = g) (some ⟨g, 0, none⟩) n (L.set i x) := by
  have hl := h.base.len
  have cell : ∀ k, k < n → k ≠ i → w'.cell? ⟨g, 0 + k, none⟩ = w.cell? ⟨b, o + k, none⟩ := fun k hk e => by rw [Nat.zero_add, hc k hk, if_neg e]
  have celli : w'.cell? ⟨g, 0 + i, none⟩ = some (.slice xa xn xc) := by rw [Nat.zero_add, hc i hi, if_pos rfl]
  refine ⟨⟨by rw [List.length_set]; exact hl, h.base.max, fun y hy => ?_, fun h0 => ⟨g, 0, rfl, hg2, fun k y hy => ?_⟩⟩, fun k hk => ?_, fun b' o' e => ?_, fun b' o' e k ra rn rc hk hcell h0 => ?_⟩
  · rcases List.mem_or_eq_of_mem_set hy with e | e
    · exact h.base.most y e
    · rw [e, hx.len]; exact hm
  · rw [List.getElem?_set] at hy
    by_cases e : i = k
    · subst e
      rw [if_pos rfl, if_pos (by omega)] at hy
      cases hy
      exact ⟨xa, xn, xc, celli, hxc, hx.on hb⟩
    · rw [if_neg e] at hy
      have hk : k < n := by rw [← hl]; exact (List.getElem?_eq_some_iff.1 hy).1
      obtain ⟨b', o', e', _, hh⟩ := h.base.head (by omega)
      injection e' with e'
      injection e' with e1 e2
      subst e1 e2
      obtain ⟨ra, rn, rc, h1, h2, h3⟩ := hh k y hy
      exact ⟨ra, rn, rc, (cell k hk (fun q => e q.symm)).trans h1, h2, h3.on hb⟩
  · rcases hk with hk | hk
    · exact Nat.lt_of_lt_of_le (h.lt k hk) hb.size
    · omega
  · injection e with e
    injection e with e1 e2
    exact Or.inr e1.symm
  · injection e with e
    injection e with e1 e2
    subst e1 e2
    by_cases e : k = i
    · subst e
      rw [celli] at hcell
      cases hcell
      obtain ⟨f, o2, e1, e2⟩ := hf h0
      exact ⟨f, o2, e1, Or.inl e2⟩
    · rw [cell k hk e] at hcell
      obtain ⟨rb, ro, e1, e2⟩ := h.rows b o rfl k ra rn rc hk hcell h0
      exact ⟨rb, ro, e1, Or.inl e2⟩
end
end Go.Proofs.Ytakecddjpdiojaa
