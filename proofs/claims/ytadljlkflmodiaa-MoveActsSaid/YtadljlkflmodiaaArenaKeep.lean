/-
  Bytes and cells through calls; a document's arena in a variable, laid anew. No statement about a Go function.
-/
import Derived.Test.YtadljlkflmodiaaArenaRefLay
namespace Go.Proofs.Ytadljlkflmodiaa
open Go.ChangeShapes Go.WideShapes Go.ChangeAt Go.RowKit

theorem Bytes.butAt {S : Nat → Prop} {w w' : World} {B b o n : Nat} {xs : List Int} (h : Bytes w B (some ⟨b, o, none⟩) n xs) (hb : But S w w') (hB : B ≤ w.heap.size) (hn : ¬ S b) : Bytes w' B (some ⟨b, o, none⟩) n xs :=
  ⟨h.1, h.2.1, h.2.2.1, fun h0 => by
    obtain ⟨b', o', e, hl, hc⟩ := h.2.2.2 h0
    injection e with e
    injection e with e1 e2
    subst e1 e2
    exact ⟨b, o, rfl, hl, fun k s hs => (hb.cell (p := ⟨b, o + k, none⟩) (by show b < _; omega) hn).trans (hc k s hs)⟩⟩
theorem Bytes.block_lt {w : World} {B b o n : Nat} {xs : List Int} (h : Bytes w B (some ⟨b, o, none⟩) n xs) (hn : 0 < n) : b < B := by
  obtain ⟨b', o', e, hl, _⟩ := h.head hn
  injection e with e
  injection e with e1 e2
  omega
/-- Some bytes of which it is known only where they don't lie. -/
theorem Bytes.far {S : Nat → Prop} {w w' : World} {B n : Nat} {a : Option Addr} {xs : List Int} (h : Bytes w B a n xs) (hb : But S w w') (hB : B ≤ w.heap.size) (hn : 0 < n → ∃ f o, a = some ⟨f, o, none⟩ ∧ ¬ S f) : Bytes w' B a n xs := by
  by_cases h0 : 0 < n
  · obtain ⟨f, o, rfl, hf⟩ := hn h0
    exact h.butAt hb hB hf
  · exact ⟨h.1, h.2.1, h.2.2.1, fun q => absurd q h0⟩

theorem more_plain {t n : Int} (t0 : 0 ≤ t) (t1 : t ≤ 1000000) (n0 : 0 ≤ n) (n1 : n ≤ 1000000) : more t n = t + n := by
  unfold more
  split
  · omega
  · split <;> omega
theorem Below.on_cell {w w' : World} (hb : Below w.heap.size w w') {p : Addr} {x : Value} (h : w.cell? p = some x) : w'.cell? p = some x := (hb.cell (lt_of_cell h)).trans h
/-- Eight cells, through a call. -/
theorem keep8c {w w' : World} (hb : Below w.heap.size w w') {p0 p1 p2 p3 p4 p5 p6 p7 : Addr} {x0 x1 x2 x3 x4 x5 x6 x7 : Value}
    (h : w.cell? p0 = some x0 ∧ w.cell? p1 = some x1 ∧ w.cell? p2 = some x2 ∧ w.cell? p3 = some x3 ∧ w.cell? p4 = some x4 ∧ w.cell? p5 = some x5 ∧ w.cell? p6 = some x6 ∧ w.cell? p7 = some x7) :
    w'.cell? p0 = some x0 ∧ w'.cell? p1 = some x1 ∧ w'.cell? p2 = some x2 ∧ w'.cell? p3 = some x3 ∧ w'.cell? p4 = some x4 ∧ w'.cell? p5 = some x5 ∧ w'.cell? p6 = some x6 ∧ w'.cell? p7 = some x7 :=
  ⟨Below.on_cell hb h.1, Below.on_cell hb h.2.1, Below.on_cell hb h.2.2.1, Below.on_cell hb h.2.2.2.1, Below.on_cell hb h.2.2.2.2.1, Below.on_cell hb h.2.2.2.2.2.1, Below.on_cell hb h.2.2.2.2.2.2.1, Below.on_cell hb h.2.2.2.2.2.2.2⟩
/-- Eight cells, behind a store into a block that came later. -/
theorem keep8y {w w5 w' : World} (hb : But (· = w.heap.size) w5 w') {p0 p1 p2 p3 p4 p5 p6 p7 : Addr} {x0 x1 x2 x3 x4 x5 x6 x7 : Value}
    (h : w.cell? p0 = some x0 ∧ w.cell? p1 = some x1 ∧ w.cell? p2 = some x2 ∧ w.cell? p3 = some x3 ∧ w.cell? p4 = some x4 ∧ w.cell? p5 = some x5 ∧ w.cell? p6 = some x6 ∧ w.cell? p7 = some x7)
    (k : w5.cell? p0 = some x0 ∧ w5.cell? p1 = some x1 ∧ w5.cell? p2 = some x2 ∧ w5.cell? p3 = some x3 ∧ w5.cell? p4 = some x4 ∧ w5.cell? p5 = some x5 ∧ w5.cell? p6 = some x6 ∧ w5.cell? p7 = some x7) :
    w'.cell? p0 = some x0 ∧ w'.cell? p1 = some x1 ∧ w'.cell? p2 = some x2 ∧ w'.cell? p3 = some x3 ∧ w'.cell? p4 = some x4 ∧ w'.cell? p5 = some x5 ∧ w'.cell? p6 = some x6 ∧ w'.cell? p7 = some x7 := by
  have one : ∀ {p : Addr} {x : Value}, w.cell? p = some x → w5.cell? p = some x → w'.cell? p = some x := fun {p x} a c => (hb.cell (lt_of_cell c) (fun e => by have := lt_of_cell a; omega)).trans c
  exact ⟨one h.1 k.1, one h.2.1 k.2.1, one h.2.2.1 k.2.2.1, one h.2.2.2.1 k.2.2.2.1, one h.2.2.2.2.1 k.2.2.2.2.1, one h.2.2.2.2.2.1 k.2.2.2.2.2.1, one h.2.2.2.2.2.2.1 k.2.2.2.2.2.2.1, one h.2.2.2.2.2.2.2 k.2.2.2.2.2.2.2⟩
/-- A variable that is laid anew. -/
theorem RB.set {w : World} {q n c : Nat} {a : Option Addr} {s : Int} (h : RB w q a n c s) (a' : Option Addr) (n' c' : Nat) (s' : Int) : RB ((w.setCell ⟨q, 0, none⟩ (.slice a' n' c')).setCell ⟨q, 1, none⟩ (.int .i64 s')) q a' n' c' s' :=
  ⟨(World.cell?_setCell_other _ ⟨q, 1, none⟩ ⟨q, 0, none⟩ _ (by simp)).trans (World.cell?_setCell_same w ⟨q, 0, none⟩ _ h.c0),
    World.cell?_setCell_same _ ⟨q, 1, none⟩ _ ((World.cell?_setCell_other w ⟨q, 0, none⟩ ⟨q, 1, none⟩ _ (by simp)).trans h.c1), by simpa using h.f0, by simpa using h.f1⟩
end Go.Proofs.Ytadljlkflmodiaa
