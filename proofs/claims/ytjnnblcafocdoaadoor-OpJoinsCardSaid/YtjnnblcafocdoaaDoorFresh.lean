/-
  Words for what a call leaves of the memory, and for how it ends. No statement about a Go function.
-/
import Derived.Test.YtjnnblcafocdoaaDoorRows
import Derived.WalkKit
import Derived.ProofKit
import Derived.OpenShut
import Derived.Below
import Derived.Deep.Draws
namespace Go.Proofs.YtjnnblcafocdoaaDoor
open Go.ChangeShapes Go.WideShapes Go.ChangeAt Go.RowKit

/-! ### What a call leaves of the memory -/
structure Fresh (w w' : World) : Prop where
  below : Below w.heap.size w w'
  grown : Grown w w'

theorem Fresh.refl (w : World) : Fresh w w := ⟨Below.refl _ _, Grown.refl _⟩
theorem Fresh.trans {a b c : World} (h : Fresh a b) (k : Fresh b c) : Fresh a c :=
  ⟨h.below.trans (k.below.mono h.below.size), ⟨World.keptBut_trans h.grown.1 (World.keptBut_mono (fun _ f => f.elim) k.grown.1), fun x => (k.grown.2.1 x).trans (h.grown.2.1 x), Nat.le_trans h.grown.2.2 k.grown.2.2⟩⟩
theorem Fresh.alloc {a b : World} (h : Fresh a b) (c : Array Value) (t : TypeId) : Fresh a (b.alloc (.cells c t)) :=
  ⟨h.below.alloc h.below.size _, h.grown.alloc c t⟩

/-! ### Words for how a call ends -/
/-- It returns the int P, and lays at most new blocks. -/
def F2 (P : Int) (w : World) (e : Ending) (w' : World) : Prop := e = .returned (.int .i64 P) ∧ Fresh w w'
/-- It returns the int P, and the world is as it was. -/
def R1 (P : Int) (w : World) (e : Ending) (w' : World) : Prop := e = .returned (.int .i64 P) ∧ w = w'
/-- It returns the bool P, and the world is as it was. -/
def B1 (P : Bool) (w : World) (e : Ending) (w' : World) : Prop := e = .returned (.bool P) ∧ w = w'
/-- It returns the int P, and draws alone. -/
def RQ (P : Int) (w : World) (e : Ending) (w' : World) : Prop := e = .returned (.int .i64 P) ∧ ∃ n, w' = w.drewN n
/-- It returns the bool P, and draws alone. -/
def BQ (P : Bool) (w : World) (e : Ending) (w' : World) : Prop := e = .returned (.bool P) ∧ ∃ n, w' = w.drewN n
/-- It returns the int P, and leaves all memory that was there as it was. -/
def IB (P : Int) (w : World) (e : Ending) (w' : World) : Prop := e = .returned (.int .i64 P) ∧ Below w.heap.size w w'
/-- It returns the bool P, and leaves all memory that was there as it was. -/
def BB (P : Bool) (w : World) (e : Ending) (w' : World) : Prop := e = .returned (.bool P) ∧ Below w.heap.size w w'
theorem belowN {B : Nat} {w w' : World} (h : Below B w w') (k : Nat) : Below B w (w'.drewN k) := ⟨h.os, h.tape, h.output, h.size, h.block⟩
theorem belowD {B : Nat} {w w' : World} (h : Below B w w') : Below B w w'.drew := ⟨h.os, h.tape, h.output, h.size, h.block⟩
theorem below1 (w : World) (o : Obj) : Below w.heap.size w (w.alloc o) := (Below.refl _ _).alloc (Nat.le_refl _) o
theorem below2 (w : World) (o1 o2 : Obj) : Below w.heap.size w ((w.alloc o1).alloc o2) := (below1 w o1).alloc (by simp) o2
/-- A callee that leaves the world as it was, inside a region that draws. -/
theorem quiet1 {P : Program} {f : FuncId} {args : Array Value} {w : World} {n : Nat} {v : Value}
    (h : Calls P f args (w.drewN n) fun e w' => e = .returned v ∧ w.drewN n = w') : Calls P f args (w.drewN n) fun e w'' => e = .returned v ∧ ∃ m, w'' = w.drewN m :=
  h.mono fun _ _ ⟨he, hm⟩ => ⟨he, n, hm.symm⟩
/-- One call behind another. -/
theorem belowT {w w1 w2 : World} (h : Below w.heap.size w w1) (k : Below w1.heap.size w1 w2) : Below w.heap.size w w2 := h.trans (k.mono h.size)
end Go.Proofs.YtjnnblcafocdoaaDoor
