/-
  An act of bits' laws (almeryref11.Act), as plain data, opened out of an argument; how far the acts have come.
-/
import Derived.Test.YtbdjocoedcgfbaaBitsAny
import Derived.Test.YtbdjocoedcgfbaaRecs
namespace Go.Proofs.Ytbdjocoedcgfbaa
open Go.ChangeShapes Go.WideShapes Go.ChangeAt Go.RowKit Go.Deep

structure Ac where
  at_ : Int
  is : Bool
instance : Inhabited Ac := ⟨⟨0, false⟩⟩
def Ac.cells (u : Ac) : List Value := [.int .i64 u.at_, .bool u.is]
def Ac.ok (u : Ac) (_ : World) (_ : Nat) : Prop := -9223372036854775808 ≤ u.at_ ∧ u.at_ ≤ 9223372036854775807
def Acts (w : World) (B : Nat) (a : Option Addr) (n : Nat) (us : List Ac) : Prop := Recs Ac.cells Ac.ok 2 w B a n us
theorem Acts.below {w w' : World} {B n : Nat} {a : Option Addr} {us : List Ac} (h : Acts w B a n us) (hb : Below B w w') : Acts w' B a n us := Recs.below h (fun _ q => q) hb
section
variable {H : Type} {enc : TypeId × Value → H} {w : World}
theorem act_cells (cs : List Value) (fuel : Nat) (x : DataW H × List MemPlace) (h : DataW.trod enc Try.prog w 0 (fun _ => true) true fuel 33 cs = some x) : ∃ u : Ac, cs = u.cells ∧ u.ok w w.heap.size := by
  obtain ⟨hl, hf⟩ := fields_of Try.underlying33 (by kernel_rfl) (by kernel_rfl) h
  match cs, hl with
  | [v0, v1], _ =>
    obtain ⟨u0, _, n0, e0, t0⟩ := hf 0 _ rfl
    obtain ⟨u1, _, n1, e1, t1⟩ := hf 1 _ rfl
    simp at e0 e1
    subst e0 e1
    obtain ⟨a0, rfl, f0⟩ := i64_field t0
    obtain ⟨a1, rfl⟩ := bool_field t1
    exact ⟨⟨a0, a1⟩, rfl, f0⟩
theorem acts_field {n : Nat} {u : Value} {y : DataW H × List MemPlace} (h : DataW.trod enc Try.prog w 0 (fun _ => true) true n 22 [u] = some y) : ∃ (a : Option Addr) (len cap : Nat) (us : List Ac), u = .slice a len cap ∧ len ≤ cap ∧ Acts w w.heap.size a len us :=
  recs_field Try.underlying22 (k := 2) (by kernel_rfl) (by decide) (fun _ => rfl) act_cells h
end

theorem keep2 {w w' : World} {B : Nat} (hb : Below B w w') {b i j : Nat} {x0 x1 : Value} (hB : b < B)
    (h : w.cell? ⟨b, i, none⟩ = some x0 ∧ w.cell? ⟨b, j, none⟩ = some x1) : w'.cell? ⟨b, i, none⟩ = some x0 ∧ w'.cell? ⟨b, j, none⟩ = some x1 :=
  ⟨(hb.cell (p := ⟨b, i, none⟩) hB).trans h.1, (hb.cell (p := ⟨b, j, none⟩) hB).trans h.2⟩
theorem quietQ {P : Program} {f : FuncId} {args : Array Value} {w : World} {n : Nat} {v : Value}
    (h : Calls P f args (w.drewN n) fun e w' => e = .returned v ∧ ∃ m, w' = (w.drewN n).drewN m) : Calls P f args (w.drewN n) fun e w'' => e = .returned v ∧ ∃ m, w'' = w.drewN m :=
  h.mono fun _ _ ⟨he, m, hm⟩ => ⟨he, n + m, by rw [hm]; simp [World.drewN, Nat.add_assoc]⟩

/-- After some acts: Bits and the document's bools hold the same. -/
structure Bs (w0 : World) (p b n : Nat) (L : List Bool) (w : World) : Prop where
  below : Below w0.heap.size w0 w
  bm : Bm w p L
  bs : Bools w w.heap.size (some ⟨b, 0, none⟩) n L
  ne : b ≠ p
  lt : b < w.heap.size
section
variable {w0 w w4 w5 : World} {p b n b' : Nat} {L L' : List Bool}
theorem Bs.grow (h : Bs w0 p b n L w) (hb : Below w.heap.size w w5) : Bs w0 p b n L w5 :=
  ⟨belowT h.below hb, h.bm.below hb, h.bs.on hb, h.ne, Nat.lt_of_lt_of_le h.lt hb.size⟩
/-- Behind Set of both. -/
theorem Bs.next (h : Bs w0 p b n L w) (hp : w0.heap.size ≤ p) (r4 : Bm w4 p L') (b4 : But (· = p) w w4) (hn : 0 < n) (s5 : Bools w5 w5.heap.size (some ⟨b', 0, none⟩) n L') (q5 : b' = b ∨ w4.heap.size ≤ b') (b5 : Below w4.heap.size w4 w5) : Bs w0 p b' n L' w5 := by
  have hl := h.bm.size
  have hs := b4.size
  refine ⟨h.below.trans ((b4.one h.below.size hp).trans (b5.mono (by have := h.below.size; omega))), r4.below b5, s5, ?_, ?_⟩
  · rcases q5 with q | q
    · rw [q]; exact h.ne
    · omega
  · obtain ⟨g, o, e, hg, _⟩ := s5.head hn
    injection e with e
    injection e with e1 e2
    subst e1
    exact hg
end
end Go.Proofs.Ytbdjocoedcgfbaa
