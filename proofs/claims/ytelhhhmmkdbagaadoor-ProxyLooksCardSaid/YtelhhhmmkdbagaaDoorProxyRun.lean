/-
  An act of proxy's laws (almeryref10.Act), as plain data, opened out of an argument; its handle; how far the acts have come.
-/
import Derived.Test.YtelhhhmmkdbagaaDoorProxyNew
import Derived.Test.YtelhhhmmkdbagaaDoorProxyRefNew
import Derived.Test.YtelhhhmmkdbagaaDoorProxyRefGive
import Derived.Test.YtelhhhmmkdbagaaDoorRecs
import Derived.Test.YtelhhhmmkdbagaaDoorTwo8
namespace Go.Proofs.YtelhhhmmkdbagaaDoor
open Go.ChangeShapes Go.WideShapes Go.ChangeAt Go.RowKit Go.Deep

structure Ac where
  give : Bool
  n : Int
  gen : Int
instance : Inhabited Ac := ⟨⟨false, 0, 0⟩⟩
def Ac.cells (u : Ac) : List Value := [.bool u.give, .int .u8 u.n, .int .u8 u.gen]
def Ac.ok (u : Ac) (_ : World) (_ : Nat) : Prop := (0 ≤ u.n ∧ u.n ≤ 255) ∧ 0 ≤ u.gen ∧ u.gen ≤ 255
def Acts (w : World) (B : Nat) (a : Option Addr) (n : Nat) (us : List Ac) : Prop := Recs Ac.cells Ac.ok 3 w B a n us
theorem Acts.below {w w' : World} {B n : Nat} {a : Option Addr} {us : List Ac} (h : Acts w B a n us) (hb : Below B w w') : Acts w' B a n us := Recs.below h (fun _ q => q) hb
section
variable {H : Type} {enc : TypeId × Value → H} {w : World}
theorem act_cells (cs : List Value) (fuel : Nat) (x : DataW H × List MemPlace) (h : DataW.trod enc Tryd.prog w 0 (fun _ => true) true fuel 49 cs = some x) : ∃ u : Ac, cs = u.cells ∧ u.ok w w.heap.size := by
  obtain ⟨hl, hf⟩ := fields_of Tryd.underlying49 (by kernel_rfl) (by kernel_rfl) h
  match cs, hl with
  | [v0, v1, v2], _ =>
    obtain ⟨u0, _, n0, e0, t0⟩ := hf 0 _ rfl
    obtain ⟨u1, _, n1, e1, t1⟩ := hf 1 _ rfl
    obtain ⟨u2, _, n2, e2, t2⟩ := hf 2 _ rfl
    simp at e0 e1 e2
    subst e0 e1 e2
    obtain ⟨a0, rfl⟩ := bool_field t0
    obtain ⟨a1, rfl, f1⟩ := u8_field t1
    obtain ⟨a2, rfl, f2⟩ := u8_field t2
    exact ⟨⟨a0, a1, a2⟩, rfl, f1, f2⟩
theorem acts_field {n : Nat} {u : Value} {y : DataW H × List MemPlace} (h : DataW.trod enc Tryd.prog w 0 (fun _ => true) true n 23 [u] = some y) : ∃ (a : Option Addr) (len cap : Nat) (us : List Ac), u = .slice a len cap ∧ len ≤ cap ∧ Acts w w.heap.size a len us :=
  recs_field Tryd.underlying23 (k := 3) (by kernel_rfl) (by decide) (fun _ => rfl) act_cells h
end

/-- An act's handle. -/
def hnd (u : Ac) : Int := 4096 * (u.gen % 6) + u.n % 10
theorem hnd_in (u : Ac) : 0 ≤ hnd u ∧ hnd u ≤ 20489 := by unfold hnd; omega
theorem handle_any (u : Ac) (b : Bool) (h1 : 0 ≤ u.n ∧ u.n ≤ 255) (h2 : 0 ≤ u.gen ∧ u.gen ≤ 255) (w : World) : Calls Tryd.prog 19 #[.agg #[.bool b, .int .u8 u.n, .int .u8 u.gen]] w (IB (hnd u) w) := by
  obtain ⟨_, n, g⟩ := u
  simp only at h1 h2
  obtain ⟨s, hs⟩ : ∃ s, n % 10 = s := ⟨_, rfl⟩
  obtain ⟨t, ht⟩ : ∃ t, g % 6 = t := ⟨_, rfl⟩
  have hs2 : n.tmod 10 = s := by rw [Int.tmod_eq_emod_of_nonneg (by omega), hs]
  have ht2 : g.tmod 6 = t := by rw [Int.tmod_eq_emod_of_nonneg (by omega), ht]
  have w1 : IntKind.i64.wrap (4096 * t) = 4096 * t := IntWalk.i64_in _ (by omega)
  have w2 : IntKind.i64.wrap (4096 * t + s) = 4096 * t + s := IntWalk.i64_in _ (by omega)
  have e : Hid (hnd ⟨‹Bool›, n, g⟩ = 4096 * t + s) := Lib.hid (by unfold hnd; simp only; rw [hs, ht])
  have HB := Lib.hid (below1 w (.cells #[.bool b, .int .u8 n, .int .u8 g] 49))
  go_enter Tryd.func19, Tryd.ntmps19
  go_wp2
  go_ret
  exact ⟨by rw [e.out]; rfl, HB.out⟩

/-- Seven cells, kept. -/
theorem keep7 {w w' : World} (hb : Below w.heap.size w w') {p0 p1 p2 p3 p4 p5 p6 : Addr} {x0 x1 x2 x3 x4 x5 x6 : Value}
    (h : w.cell? p0 = some x0 ∧ w.cell? p1 = some x1 ∧ w.cell? p2 = some x2 ∧ w.cell? p3 = some x3 ∧ w.cell? p4 = some x4 ∧ w.cell? p5 = some x5 ∧ w.cell? p6 = some x6) : w'.cell? p0 = some x0 ∧ w'.cell? p1 = some x1 ∧ w'.cell? p2 = some x2 ∧ w'.cell? p3 = some x3 ∧ w'.cell? p4 = some x4 ∧ w'.cell? p5 = some x5 ∧ w'.cell? p6 = some x6 :=
  ⟨(hb.cell (lt_of_cell h.1)).trans h.1, (hb.cell (lt_of_cell h.2.1)).trans h.2.1, (hb.cell (lt_of_cell h.2.2.1)).trans h.2.2.1, (hb.cell (lt_of_cell h.2.2.2.1)).trans h.2.2.2.1, (hb.cell (lt_of_cell h.2.2.2.2.1)).trans h.2.2.2.2.1, (hb.cell (lt_of_cell h.2.2.2.2.2.1)).trans h.2.2.2.2.2.1, (hb.cell (lt_of_cell h.2.2.2.2.2.2)).trans h.2.2.2.2.2.2⟩
theorem keep7y {w w5 w' : World} {Y : Nat} (hb : But (· = Y) w5 w') (hY : w.heap.size ≤ Y) {p0 p1 p2 p3 p4 p5 p6 : Addr} {x0 x1 x2 x3 x4 x5 x6 : Value}
    (h : w.cell? p0 = some x0 ∧ w.cell? p1 = some x1 ∧ w.cell? p2 = some x2 ∧ w.cell? p3 = some x3 ∧ w.cell? p4 = some x4 ∧ w.cell? p5 = some x5 ∧ w.cell? p6 = some x6) (k : w5.cell? p0 = some x0 ∧ w5.cell? p1 = some x1 ∧ w5.cell? p2 = some x2 ∧ w5.cell? p3 = some x3 ∧ w5.cell? p4 = some x4 ∧ w5.cell? p5 = some x5 ∧ w5.cell? p6 = some x6) : w'.cell? p0 = some x0 ∧ w'.cell? p1 = some x1 ∧ w'.cell? p2 = some x2 ∧ w'.cell? p3 = some x3 ∧ w'.cell? p4 = some x4 ∧ w'.cell? p5 = some x5 ∧ w'.cell? p6 = some x6 := by
  have one : ∀ {p : Addr} {x : Value}, w.cell? p = some x → w5.cell? p = some x → w'.cell? p = some x := fun {p x} a c => (hb.cell (lt_of_cell c) (fun e => by have := lt_of_cell a; omega)).trans c
  exact ⟨one h.1 k.1, one h.2.1 k.2.1, one h.2.2.1 k.2.2.1, one h.2.2.2.1 k.2.2.2.1, one h.2.2.2.2.1 k.2.2.2.2.1, one h.2.2.2.2.2.1 k.2.2.2.2.2.1, one h.2.2.2.2.2.2 k.2.2.2.2.2.2⟩

/-- After some acts: a Table and the document's table, in variable X, hold the same; R is the result's variable. -/
structure Ps (w0 : World) (p a X R K : Nat) (M : Int) (T : Tb) (ga : Option Addr) (gc : Nat) (la : Option Addr) (lc : Nat) (fa : Option Addr) (fc n : Nat) (P : Nat → Prop) (w : World) : Prop where
  below : Below w0.heap.size w0 w
  tm : Tm w p a K M T
  lv : Bv w X (.slice ga K gc) (.slice la K lc) (.slice fa n fc) (.int .i64 M)
  rv : Bv w R (.slice none 0 0) (.slice none 0 0) (.slice none 0 0) (.int .i64 0)
  rp : Rp w P ga gc la lc fa fc n K T
  far : ∀ i, P i → i ≠ X ∧ i ≠ p ∧ i ≠ a ∧ i ≠ R
/-- Where all lies. -/
structure Lay (w0 : World) (p a X R : Nat) : Prop where
  xp : X ≠ p
  xa : X ≠ a
  xr : X ≠ R
  rp : R ≠ p
  ra : R ≠ a
  p0 : w0.heap.size ≤ p
  a0 : w0.heap.size ≤ a
  x0 : w0.heap.size ≤ X
  r0 : w0.heap.size ≤ R
  pos : 0 < w0.heap.size
/-- Behind an act of the document's: its table in a variable of its own. -/
structure Yx (w4 : World) (P : Nat → Prop) (K : Nat) (M : Int) (T : Tb) (ga : Option Addr) (gc : Nat) (la : Option Addr) (lc : Nat) (fa : Option Addr) (fc n : Nat) (Q : Nat → Prop) (Y : Nat) (w6 : World) : Prop where
  below : Below w4.heap.size w4 w6
  lv : Bv w6 Y (.slice ga K gc) (.slice la K lc) (.slice fa n fc) (.int .i64 M)
  rp : Rp w6 Q ga gc la lc fa fc n K T
  from_ : ∀ i, Q i → P i ∨ w4.heap.size ≤ i
  later : w4.heap.size ≤ Y
section
variable {w0 w4 v0 v2 w5 w6 wr : World} {p a X R K gc lc fc n gc' lc' fc' n' Y : Nat} {M : Int} {T T' : Tb} {ga la fa ga' la' fa' : Option Addr} {P Q : Nat → Prop}
theorem Yx.behind (b2 : Below w4.heap.size w4 v2) (b5 : Below v2.heap.size v2 w5) (l5 : Rp w5 Q ga gc la lc fa fc n K T) (hQ : ∀ i, Q i → P i ∨ v2.heap.size ≤ i) :
    Yx w4 P K M T ga gc la lc fa fc n Q w5.heap.size (w5.alloc (.cells #[.slice ga K gc, .slice la K lc, .slice fa n fc, .int .i64 M] 29)) :=
  have b4 : Below w4.heap.size w4 w5 := belowT b2 b5
  ⟨belowT b4 (below1 w5 _), Bv.new w5 _ _ _ _, l5.on (below1 w5 _), fun i hi => (hQ i hi).imp id (fun q => Nat.le_trans b2.size q), b4.size⟩
theorem Yx.ahead (hP : ∀ i, P i → i < w4.heap.size) (b0 : Below w4.heap.size w4 v0) (b2 : Below (v0.alloc (.cells #[.slice none 0 0, .slice none 0 0, .slice none 0 0, .int .i64 0] 29)).heap.size (v0.alloc (.cells #[.slice none 0 0, .slice none 0 0, .slice none 0 0, .int .i64 0] 29)) v2) (b5 : Below v2.heap.size v2 w5) (l5 : Rp w5 Q ga gc la lc fa fc n K T)
    (hQ : ∀ i, Q i → P i ∨ v2.heap.size ≤ i) :
    Yx w4 P K M T ga gc la lc fa fc n Q v0.heap.size ((((w5.setCell ⟨v0.heap.size, 0, none⟩ (.slice ga K gc)).setCell ⟨v0.heap.size, 1, none⟩ (.slice la K lc)).setCell ⟨v0.heap.size, 2, none⟩ (.slice fa n fc)).setCell ⟨v0.heap.size, 3, none⟩ (.int .i64 M)) := by
  have hs : (v0.alloc (.cells #[.slice none 0 0, .slice none 0 0, .slice none 0 0, .int .i64 0] 29)).heap.size = v0.heap.size + 1 := by simp
  have b4 : Below w4.heap.size w4 w5 := belowT (belowT (belowT b0 (below1 v0 _)) b2) b5
  have hb := but_four w5 v0.heap.size (.slice ga K gc) (.slice la K lc) (.slice fa n fc) (.int .i64 M)
  have l0 := ((Bv.new v0 (.slice none 0 0) (.slice none 0 0) (.slice none 0 0) (.int .i64 0)).below b2).below b5
  have s0 := b0.size
  have s2 := b2.size
  refine ⟨b4.trans (hb.one b4.size s0), l0.set _ _ _ _, l5.but hb (fun i hi e => ?_), fun i hi => ?_, s0⟩
  · rcases hQ i hi with q | q
    · have := hP i q; omega
    · omega
  · rcases hQ i hi with q | q
    · exact Or.inl q
    · exact Or.inr (by omega)
theorem Tm.var {w w' : World} {q : Nat} (h : Tm w p a K M T) (h1 : q ≠ p) (h2 : q ≠ a) (h3 : q ≠ 0) (hb : But (· = q) w w') : Tm w' p a K M T :=
  h.but hb (fun e => h1 e.symm) (fun e => h2 e.symm) (fun e => h3 e.symm)
theorem Ps.next (h : Ps w0 p a X R K M T ga gc la lc fa fc n P wr) (ly : Lay w0 p a X R) (b4 : But (Own p a) wr w4) (r4 : Tm w4 p a K M T') (y : Yx w4 P K M T' ga' gc' la' lc' fa' fc' n' Q Y w6) :
    Ps w0 p a X R K M T' ga' gc' la' lc' fa' fc' n' Q (set4 w6 X (.slice ga' K gc') (.slice la' K lc') (.slice fa' n' fc') (.int .i64 M)) := by
  have hb := but_four w6 X (.slice ga' K gc') (.slice la' K lc') (.slice fa' n' fc') (.int .i64 M)
  have l4 := h.lv.but b4 (fun e => by rcases e with e | e; exact ly.xp e; exact ly.xa e)
  have v4 := h.rv.but b4 (fun e => by rcases e with e | e; exact ly.rp e; exact ly.ra e)
  have b04 : Below w0.heap.size w0 w4 := h.below.trans (Own.below b4 h.below.size ly.p0 ly.a0)
  have hs4 := b4.size
  have hX := h.lv.size
  have hR := h.rv.size
  have hqx : ∀ i, Q i → i ≠ X ∧ i ≠ p ∧ i ≠ a ∧ i ≠ R := fun i hi => by
    rcases y.from_ i hi with q | q
    · exact h.far i q
    · have := h.tm.psize
      have := h.tm.asize
      omega
  exact ⟨(belowT b04 y.below).trans (hb.one (belowT b04 y.below).size ly.x0), (r4.below y.below).var ly.xp ly.xa (by have := ly.pos; have := ly.x0; omega) hb, (l4.below y.below).set _ _ _ _, (v4.below y.below).but hb (fun e => ly.xr e.symm), y.rp.but hb (fun i hi => (hqx i hi).1), hqx⟩
/-- At the start: the document's table is made, and laid into a variable. -/
theorem Ps.start {w1 w2 w3 : World} {o : Obj} (hw1 : w1 = (w0.alloc o).alloc (.cells #[.slice none 0 0, .slice none 0 0, .slice none 0 0, .int .i64 0] 29)) (hpos : 0 < w0.heap.size) (m2 : Tm w2 p a K M T) (b2 : Below w1.heap.size w1 w2) (hp : w1.heap.size ≤ p) (ha : w1.heap.size ≤ a) (b3 : Below w2.heap.size w2 w3) (r3 : Rp w3 Q ga gc la lc fa fc n K T) (hQ : ∀ i, Q i → w2.heap.size ≤ i) :
    Ps w0 p a w3.heap.size (w0.heap.size + 1) K M T ga gc la lc fa fc n Q (w3.alloc (.cells #[.slice ga K gc, .slice la K lc, .slice fa n fc, .int .i64 M] 29)) ∧ Lay w0 p a w3.heap.size (w0.heap.size + 1) := by
  have s1 : w1.heap.size = w0.heap.size + 2 := by rw [hw1]; simp
  have b1 : Below w0.heap.size w0 w1 := by rw [hw1]; exact below2 _ _ _
  have v1 : Bv w1 (w0.heap.size + 1) (.slice none 0 0) (.slice none 0 0) (.slice none 0 0) (.int .i64 0) := by
    have := Bv.new (w0.alloc o) (.slice none 0 0) (.slice none 0 0) (.slice none 0 0) (.int .i64 0)
    rw [show (w0.alloc o).heap.size = w0.heap.size + 1 by simp] at this
    rw [hw1]; exact this
  have s2 := b2.size
  have s3 := b3.size
  have hb := below1 w3 (.cells #[.slice ga K gc, .slice la K lc, .slice fa n fc, .int .i64 M] 29)
  have h1 := m2.psize
  have h2 := m2.asize
  exact ⟨⟨belowT (belowT (belowT b1 b2) b3) hb, (m2.below b3).below hb, Bv.new w3 _ _ _ _, ((v1.below b2).below b3).below hb, r3.on hb, fun i hi => by have := hQ i hi; have := r3.lt i hi; omega⟩,
    by omega, by omega, by omega, by omega, by omega, by omega, by omega, by omega, by omega, hpos⟩
end
end Go.Proofs.YtelhhhmmkdbagaaDoor
