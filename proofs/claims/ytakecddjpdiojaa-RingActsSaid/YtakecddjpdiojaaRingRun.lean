/-
  How far the acts of ring's laws have come: Lists and the document's lists hold the same. No statement about a Go function.
-/
import Derived.Test.YtakecddjpdiojaaRingSame
namespace Go.Proofs.Ytakecddjpdiojaa
open Go.ChangeShapes Go.WideShapes Go.ChangeAt Go.RowKit

theorem keep5 {w w' : World} (hb : Below w.heap.size w w') {p0 p1 p2 p3 p4 : Addr} {x0 x1 x2 x3 x4 : Value}
    (h : w.cell? p0 = some x0 ∧ w.cell? p1 = some x1 ∧ w.cell? p2 = some x2 ∧ w.cell? p3 = some x3 ∧ w.cell? p4 = some x4) : w'.cell? p0 = some x0 ∧ w'.cell? p1 = some x1 ∧ w'.cell? p2 = some x2 ∧ w'.cell? p3 = some x3 ∧ w'.cell? p4 = some x4 :=
  ⟨(hb.cell (lt_of_cell h.1)).trans h.1, (hb.cell (lt_of_cell h.2.1)).trans h.2.1, (hb.cell (lt_of_cell h.2.2.1)).trans h.2.2.1, (hb.cell (lt_of_cell h.2.2.2.1)).trans h.2.2.2.1, (hb.cell (lt_of_cell h.2.2.2.2)).trans h.2.2.2.2⟩
theorem keep5y {w w5 w' : World} (hb : But (· = w.heap.size) w5 w') {p0 p1 p2 p3 p4 : Addr} {x0 x1 x2 x3 x4 : Value}
    (h : w.cell? p0 = some x0 ∧ w.cell? p1 = some x1 ∧ w.cell? p2 = some x2 ∧ w.cell? p3 = some x3 ∧ w.cell? p4 = some x4)
    (k : w5.cell? p0 = some x0 ∧ w5.cell? p1 = some x1 ∧ w5.cell? p2 = some x2 ∧ w5.cell? p3 = some x3 ∧ w5.cell? p4 = some x4) : w'.cell? p0 = some x0 ∧ w'.cell? p1 = some x1 ∧ w'.cell? p2 = some x2 ∧ w'.cell? p3 = some x3 ∧ w'.cell? p4 = some x4 := by
  have one : ∀ {p : Addr} {x : Value}, w.cell? p = some x → w5.cell? p = some x → w'.cell? p = some x := fun {p x} a c => (hb.cell (lt_of_cell c) (fun e => by have := lt_of_cell a; omega)).trans c
  exact ⟨one h.1 k.1, one h.2.1 k.2.1, one h.2.2.1 k.2.2.1, one h.2.2.2.1 k.2.2.2.1, one h.2.2.2.2 k.2.2.2.2⟩

/-- After k acts. -/
structure Rs (w0 : World) (p a b X k : Nat) (L : List (List Int)) (xa : Option Addr) (c : Nat) (P : Nat → Prop) (w : World) : Prop where
  below : Below w0.heap.size w0 w
  rg : Rg w p a b 8 3 k L
  lv : Lv w X xa 3 c 8
  ls : Lsp w P xa 3 L
  far : ∀ i, P i → i ≠ X ∧ i ≠ a ∧ i ≠ b
/-- Where all lies. -/
structure Lay (w0 : World) (p a b X : Nat) : Prop where
  xp : X ≠ p
  xa : X ≠ a
  xb : X ≠ b
  a0 : w0.heap.size ≤ a
  b0 : w0.heap.size ≤ b
  x0 : w0.heap.size ≤ X
/-- Behind the document's Do: its lists in a variable of their own. -/
structure Yx (w4 : World) (P : Nat → Prop) (L : List (List Int)) (a' : Option Addr) (c' : Nat) (Q : Nat → Prop) (Y : Nat) (w6 : World) : Prop where
  below : Below w4.heap.size w4 w6
  lv : Lv w6 Y a' 3 c' 8
  ls : Lsp w6 Q a' 3 L
  from_ : ∀ i, Q i → P i ∨ w4.heap.size ≤ i
  later : w4.heap.size ≤ Y
section
variable {w0 w4 w5 w6 wr : World} {p a b X k c c' Y : Nat} {L L' : List (List Int)} {xa a' : Option Addr} {P Q : Nat → Prop}
theorem Yx.behind (b5 : Below w4.drew.heap.size w4.drew w5) (l5 : Lsp w5 Q a' 3 L) (hQ : ∀ i, Q i → P i ∨ w4.drew.heap.size ≤ i) :
    Yx w4 P L a' c' Q w5.heap.size (w5.alloc (.cells #[.slice a' 3 c', .int .i64 8] 30)) :=
  have b4 : Below w4.heap.size w4 w5 := belowT (belowD (Below.refl _ _)) b5
  ⟨belowT b4 (below1 w5 _), Lv.new w5 a' 3 c' 8, l5.on (below1 w5 _), hQ, b4.size⟩
theorem Yx.ahead (hP : ∀ i, P i → i < w4.heap.size) (b5 : Below (w4.drew.alloc (.cells #[.slice none 0 0, .int .i64 0] 30)).heap.size (w4.drew.alloc (.cells #[.slice none 0 0, .int .i64 0] 30)) w5) (l5 : Lsp w5 Q a' 3 L)
    (hQ : ∀ i, Q i → P i ∨ (w4.drew.alloc (.cells #[.slice none 0 0, .int .i64 0] 30)).heap.size ≤ i) :
    Yx w4 P L a' c' Q w4.heap.size ((w5.setCell ⟨w4.heap.size, 0, none⟩ (.slice a' 3 c')).setCell ⟨w4.heap.size, 1, none⟩ (.int .i64 8)) := by
  have hs : (w4.drew.alloc (.cells #[.slice none 0 0, .int .i64 0] 30)).heap.size = w4.heap.size + 1 := by simp
  have b4 : Below w4.heap.size w4 w5 := belowT (belowT (belowD (Below.refl _ _)) (below1 w4.drew _)) b5
  have hb := but_two w5 w4.heap.size (.slice a' 3 c') (.int .i64 8)
  have l0 : Lv w5 w4.heap.size none 0 0 0 := (Lv.new w4.drew none 0 0 0).below b5
  refine ⟨b4.trans (hb.one b4.size (Nat.le_refl _)), l0.set _ _ _ _, l5.but hb (fun i hi e => ?_), fun i hi => ?_, Nat.le_refl _⟩
  · rcases hQ i hi with q | q
    · have := hP i q; omega
    · omega
  · rcases hQ i hi with q | q
    · exact Or.inl q
    · exact Or.inr (by omega)
theorem Rs.next (h : Rs w0 p a b X k L xa c P wr) (ly : Lay w0 p a b X) (b4 : But (Own a b) wr w4) (r4 : Rg w4 p a b 8 3 (k + 1) L') (y : Yx w4 P L' a' c' Q Y w6) :
    Rs w0 p a b X (k + 1) L' a' c' Q ((w6.setCell ⟨X, 0, none⟩ (.slice a' 3 c')).setCell ⟨X, 1, none⟩ (.int .i64 8)) := by
  have hb := but_two w6 X (.slice a' 3 c') (.int .i64 8)
  have hX : X < wr.heap.size := lt_of_cell (p := ⟨X, 0, none⟩) h.lv.c0
  have l4 : Lv w4 X xa 3 c 8 := h.lv.but b4 (fun e => by rcases e with e | e; exact ly.xa e; exact ly.xb e)
  have b04 : Below w0.heap.size w0 w4 := h.below.trans (b4.below h.below.size (fun i hi e => by rcases e with e | e; (have := ly.a0; omega); (have := ly.b0; omega)))
  have hs4 := b4.size
  have hqx : ∀ i, Q i → i ≠ X ∧ i ≠ a ∧ i ≠ b := fun i hi => by
    rcases y.from_ i hi with q | q
    · exact h.far i q
    · have := h.rg.rm.asize
      have := h.rg.rm.bsize
      omega
  exact ⟨(belowT b04 y.below).trans (hb.one (belowT b04 y.below).size ly.x0), (r4.below y.below).but hb (fun e => ly.xp e.symm) (fun e => ly.xa e.symm) (fun e => ly.xb e.symm), (l4.below y.below).set _ _ _ _, y.ls.but hb (fun i hi => (hqx i hi).1), hqx⟩
theorem Rs.drewN (h : Rs w0 p a b X k L xa c P wr) (n : Nat) : Rs w0 p a b X k L xa c P (wr.drewN n) :=
  ⟨belowN h.below n, h.rg.below (belowN (Below.refl _ _) n), h.lv.below (belowN (Below.refl _ _) n), h.ls.on (belowN (Below.refl _ _) n), h.far⟩
/-- At the start: the document's lists are made, and laid into a variable. -/
theorem Rs.start {w2 w3 : World} {h : Nat} (hb : Below w0.heap.size w0 w2) (r2 : Rg w2 p a b 8 3 0 (List.replicate 3 [])) (b3 : Below w2.heap.size w2 w3) (hh : w2.heap.size ≤ h)
    (l3 : Lss w3 w3.heap.size (some ⟨h, 0, none⟩) 3 (List.replicate 3 [])) (pa : w0.heap.size ≤ a) (pb : w0.heap.size ≤ b) :
    Rs w0 p a b w3.heap.size 0 (List.replicate 3 []) (some ⟨h, 0, none⟩) 3 (· = h) (w3.alloc (.cells #[.slice (some ⟨h, 0, none⟩) 3 3, .int .i64 8] 30)) ∧ Lay w0 p a b w3.heap.size := by
  have hb1 := below1 w3 (.cells #[.slice (some ⟨h, 0, none⟩) 3 3, .int .i64 8] 30)
  have s1 := r2.rm.psize
  have s2 := r2.rm.asize
  have s3 := r2.rm.bsize
  have s4 := b3.size
  have s5 := hb.size
  obtain ⟨b', o', e, hlt, hc⟩ := l3.head (by omega)
  injection e with e
  injection e with e1 e2
  subst e1 e2
  refine ⟨⟨belowT (belowT hb b3) hb1, (r2.below b3).below hb1, Lv.new w3 _ 3 3 8, Lsp.on ⟨l3, fun i hi => by rw [hi]; exact hlt, fun b o e => by injection e with e; injection e with e1 e2; exact e1.symm, fun b o e i ra rn rc hi hcell h0 => ?_⟩ hb1, fun i hi => ?_⟩, ⟨?_, ?_, ?_, pa, pb, ?_⟩⟩
  · injection e with e
    injection e with e1 e2
    subst e1 e2
    obtain ⟨ra', rn', rc', h1, h2, h3⟩ := hc i [] (by rw [List.getElem?_replicate]; simp; omega)
    rw [hcell] at h1
    cases h1
    have := h3.len
    simp at this
    omega
  · subst hi
    refine ⟨?_, ?_, ?_⟩ <;> omega
  · omega
  · omega
  · omega
  · omega
end
end Go.Proofs.Ytakecddjpdiojaa
