/-
  An act of pool's laws (almeryref08.Act), as plain data, opened out of an argument; how far the acts have come; the law's own 'run'.
-/
import Derived.Test.YtmcdobkoedccgaaPoolNew
import Derived.Test.YtmcdobkoedccgaaPoolRefDo
import Derived.Test.YtmcdobkoedccgaaRecs
namespace Go.Proofs.Ytmcdobkoedccgaa
open Go.ChangeShapes Go.WideShapes Go.ChangeAt Go.RowKit Go.Deep

structure Ac where
  give : Bool
  n : Int
instance : Inhabited Ac := ⟨⟨false, 0⟩⟩
def Ac.cells (u : Ac) : List Value := [.bool u.give, .int .i64 u.n]
def Ac.ok (u : Ac) (_ : World) (_ : Nat) : Prop := Fit u.n
def Acts (w : World) (B : Nat) (a : Option Addr) (n : Nat) (us : List Ac) : Prop := Recs Ac.cells Ac.ok 2 w B a n us
theorem Acts.below {w w' : World} {B n : Nat} {a : Option Addr} {us : List Ac} (h : Acts w B a n us) (hb : Below B w w') : Acts w' B a n us := Recs.below h (fun _ q => q) hb
section
variable {H : Type} {enc : TypeId × Value → H} {w : World}
theorem act_cells (cs : List Value) (fuel : Nat) (x : DataW H × List MemPlace) (h : DataW.trod enc Try.prog w 0 (fun _ => true) true fuel 47 cs = some x) : ∃ u : Ac, cs = u.cells ∧ u.ok w w.heap.size := by
  obtain ⟨hl, hf⟩ := fields_of Try.underlying47 (by kernel_rfl) (by kernel_rfl) h
  match cs, hl with
  | [v0, v1], _ =>
    obtain ⟨u0, _, n0, e0, t0⟩ := hf 0 _ rfl
    obtain ⟨u1, _, n1, e1, t1⟩ := hf 1 _ rfl
    simp at e0 e1
    subst e0 e1
    obtain ⟨a0, rfl⟩ := bool_field t0
    obtain ⟨a1, rfl, f1⟩ := i64_field t1
    exact ⟨⟨a0, a1⟩, rfl, f1⟩
theorem acts_field {n : Nat} {u : Value} {y : DataW H × List MemPlace} (h : DataW.trod enc Try.prog w 0 (fun _ => true) true n 22 [u] = some y) : ∃ (a : Option Addr) (len cap : Nat) (us : List Ac), u = .slice a len cap ∧ len ≤ cap ∧ Acts w w.heap.size a len us :=
  recs_field Try.underlying22 (k := 2) (by kernel_rfl) (by decide) (fun _ => rfl) act_cells h
end

theorem keep3 {w w' : World} (hb : Below w.heap.size w w') {p0 p1 p2 : Addr} {x0 x1 x2 : Value}
    (h : w.cell? p0 = some x0 ∧ w.cell? p1 = some x1 ∧ w.cell? p2 = some x2) : w'.cell? p0 = some x0 ∧ w'.cell? p1 = some x1 ∧ w'.cell? p2 = some x2 :=
  ⟨(hb.cell (lt_of_cell h.1)).trans h.1, (hb.cell (lt_of_cell h.2.1)).trans h.2.1, (hb.cell (lt_of_cell h.2.2)).trans h.2.2⟩
theorem keep3y {w w5 w' : World} (hb : But (· = w.heap.size) w5 w') {p0 p1 p2 : Addr} {x0 x1 x2 : Value}
    (h : w.cell? p0 = some x0 ∧ w.cell? p1 = some x1 ∧ w.cell? p2 = some x2)
    (k : w5.cell? p0 = some x0 ∧ w5.cell? p1 = some x1 ∧ w5.cell? p2 = some x2) : w'.cell? p0 = some x0 ∧ w'.cell? p1 = some x1 ∧ w'.cell? p2 = some x2 := by
  have one : ∀ {p : Addr} {x : Value}, w.cell? p = some x → w5.cell? p = some x → w'.cell? p = some x := fun {p x} a c => (hb.cell (lt_of_cell c) (fun e => by have := lt_of_cell a; omega)).trans c
  exact ⟨one h.1 k.1, one h.2.1 k.2.1, one h.2.2 k.2.2⟩

/-- After some acts: a Pool and the document's pool, in variable X, hold the same; R is the result's variable. -/
structure Ps (w0 : World) (p a X R K : Nat) (O fl : List Int) (oa : Option Addr) (oc : Nat) (fa : Option Addr) (fc n : Nat) (P : Nat → Prop) (w : World) : Prop where
  below : Below w0.heap.size w0 w
  pm : Pm w p a K O fl
  lv : Bv w X oa K oc fa n fc
  rv : Bv w R none 0 0 none 0 0
  rp : Rp w P oa oc fa fc n K O fl
  far : ∀ i, P i → i ≠ X ∧ i ≠ p ∧ i ≠ a ∧ i ≠ R
/-- Where all lies. -/
structure Lay (w0 : World) (p a X R : Nat) : Prop where
  xp : X ≠ p
  xa : X ≠ a
  xr : X ≠ R
  rp : R ≠ p
  ra : R ≠ a
  p0 : w0.heap.size ≤ p
  a0 : w0.heap.size ≤ a
  x0 : w0.heap.size ≤ X
  r0 : w0.heap.size ≤ R
/-- Behind an act of the document's: its pool in a variable of its own. -/
structure Yx (w4 : World) (P : Nat → Prop) (K : Nat) (O fl : List Int) (oa : Option Addr) (oc : Nat) (fa : Option Addr) (fc n : Nat) (Q : Nat → Prop) (Y : Nat) (w6 : World) : Prop where
  below : Below w4.heap.size w4 w6
  lv : Bv w6 Y oa K oc fa n fc
  rp : Rp w6 Q oa oc fa fc n K O fl
  from_ : ∀ i, Q i → P i ∨ w4.heap.size ≤ i
  later : w4.heap.size ≤ Y
section
variable {w0 w4 w5 w6 wr : World} {p a X R K oc fc n oc' fc' n' Y : Nat} {O fl O' fl' : List Int} {oa fa oa' fa' : Option Addr} {P Q : Nat → Prop}
theorem Yx.behind (b5 : Below w4.drew.heap.size w4.drew w5) (l5 : Rp w5 Q oa oc fa fc n K O fl) (hQ : ∀ i, Q i → P i ∨ w4.drew.heap.size ≤ i) :
    Yx w4 P K O fl oa oc fa fc n Q w5.heap.size (w5.alloc (.cells #[.slice oa K oc, .slice fa n fc] 27)) :=
  have b4 : Below w4.heap.size w4 w5 := belowT (belowD (Below.refl _ _)) b5
  ⟨belowT b4 (below1 w5 _), Bv.new w5 _ _ _ _ _ _, l5.on (below1 w5 _), hQ, b4.size⟩
theorem Yx.ahead (hP : ∀ i, P i → i < w4.heap.size) (b5 : Below (w4.drew.alloc (.cells #[.slice none 0 0, .slice none 0 0] 27)).heap.size (w4.drew.alloc (.cells #[.slice none 0 0, .slice none 0 0] 27)) w5) (l5 : Rp w5 Q oa oc fa fc n K O fl)
    (hQ : ∀ i, Q i → P i ∨ (w4.drew.alloc (.cells #[.slice none 0 0, .slice none 0 0] 27)).heap.size ≤ i) :
    Yx w4 P K O fl oa oc fa fc n Q w4.heap.size ((w5.setCell ⟨w4.heap.size, 0, none⟩ (.slice oa K oc)).setCell ⟨w4.heap.size, 1, none⟩ (.slice fa n fc)) := by
  have hs : (w4.drew.alloc (.cells #[.slice none 0 0, .slice none 0 0] 27)).heap.size = w4.heap.size + 1 := by simp
  have b4 : Below w4.heap.size w4 w5 := belowT (belowT (belowD (Below.refl _ _)) (below1 w4.drew _)) b5
  have hb := but_two w5 w4.heap.size (.slice oa K oc) (.slice fa n fc)
  have l0 : Bv w5 w4.heap.size none 0 0 none 0 0 := (Bv.new w4.drew none 0 0 none 0 0).below b5
  refine ⟨b4.trans (hb.one b4.size (Nat.le_refl _)), l0.set _ _ _ _ _ _, l5.but hb (fun i hi e => ?_), fun i hi => ?_, Nat.le_refl _⟩
  · rcases hQ i hi with q | q
    · have := hP i q; omega
    · omega
  · rcases hQ i hi with q | q
    · exact Or.inl q
    · exact Or.inr (by omega)
theorem Pm.var {w : World} {q : Nat} (h : Pm w p a K O fl) (l : Bv w q oa' Y oc' fa' n' fc') (h1 : q ≠ p) (h2 : q ≠ a) {w' : World} (hb : But (· = q) w w') : Pm w' p a K O fl :=
  h.but hb (fun e => h1 e.symm) (fun e => h2 e.symm) (fun i hi _ x hx => by subst hi; rw [l.c0] at hx; cases hx)
theorem Ps.next (h : Ps w0 p a X R K O fl oa oc fa fc n P wr) (ly : Lay w0 p a X R) (b4 : But (Own p a) wr w4) (r4 : Pm w4 p a K O' fl') (y : Yx w4 P K O' fl' oa' oc' fa' fc' n' Q Y w6) :
    Ps w0 p a X R K O' fl' oa' oc' fa' fc' n' Q ((w6.setCell ⟨X, 0, none⟩ (.slice oa' K oc')).setCell ⟨X, 1, none⟩ (.slice fa' n' fc')) := by
  have hb := but_two w6 X (.slice oa' K oc') (.slice fa' n' fc')
  have l4 : Bv w4 X oa K oc fa n fc := h.lv.but b4 (fun e => by rcases e with e | e; exact ly.xp e; exact ly.xa e)
  have v4 : Bv w4 R none 0 0 none 0 0 := h.rv.but b4 (fun e => by rcases e with e | e; exact ly.rp e; exact ly.ra e)
  have b04 : Below w0.heap.size w0 w4 := h.below.trans (Own.below b4 h.below.size ly.p0 ly.a0)
  have hs4 := b4.size
  have hX := h.lv.size
  have hR := h.rv.size
  have hqx : ∀ i, Q i → i ≠ X ∧ i ≠ p ∧ i ≠ a ∧ i ≠ R := fun i hi => by
    rcases y.from_ i hi with q | q
    · exact h.far i q
    · have := h.pm.psize
      have := h.pm.asize
      omega
  exact ⟨(belowT b04 y.below).trans (hb.one (belowT b04 y.below).size ly.x0), (r4.below y.below).var (l4.below y.below) ly.xp ly.xa hb, (l4.below y.below).set _ _ _ _ _ _, (v4.below y.below).but hb (fun e => ly.xr e.symm), y.rp.but hb (fun i hi => (hqx i hi).1), hqx⟩
/-- At the start: the document's pool is made, and laid into a variable. -/
theorem Ps.start {w1 w2 w3 : World} (hw1 : w1 = w0.alloc (.cells #[.slice none 0 0, .slice none 0 0] 27)) (m2 : Pm w2 p a K O fl) (b2 : Below w1.heap.size w1 w2) (hp : w1.heap.size ≤ p) (ha : w1.heap.size ≤ a) (b3 : Below w2.heap.size w2 w3) (r3 : Rp w3 Q oa oc fa fc n K O fl) (hQ : ∀ i, Q i → w2.heap.size ≤ i) :
    Ps w0 p a w3.heap.size w0.heap.size K O fl oa oc fa fc n Q (w3.alloc (.cells #[.slice oa K oc, .slice fa n fc] 27)) ∧ Lay w0 p a w3.heap.size w0.heap.size := by
  have s1 : w1.heap.size = w0.heap.size + 1 := by rw [hw1]; simp
  have b1 : Below w0.heap.size w0 w1 := by rw [hw1]; exact below1 _ _
  have v1 : Bv w1 w0.heap.size none 0 0 none 0 0 := by rw [hw1]; exact Bv.new _ _ _ _ _ _ _
  have s2 := b2.size
  have s3 := b3.size
  have hb := below1 w3 (.cells #[.slice oa K oc, .slice fa n fc] 27)
  have h1 := m2.psize
  have h2 := m2.asize
  exact ⟨⟨belowT (belowT (belowT b1 b2) b3) hb, (m2.below b3).below hb, Bv.new w3 _ _ _ _ _ _, ((v1.below b2).below b3).below hb, r3.on hb, fun i hi => by have := hQ i hi; have := r3.lt i hi; omega⟩,
    by omega, by omega, by omega, by omega, by omega, by omega, by omega, by omega, by omega⟩
end
end Go.Proofs.Ytmcdobkoedccgaa
