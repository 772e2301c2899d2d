/-
  A cut ('x[i:j]') at a step of a region that draws its order, walked by hand, whose run is known. No statement about a Go function.
-/
import Derived.Test.YtjnnblcafocdoaaDoorHeldOff
namespace Go.Proofs.YtjnnblcafocdoaaDoor
open Go.ChangeShapes Go.WideShapes Go.ChangeAt Go.RowKit

section
variable {P : Program} {ops : Array Oper} {Q : Exit → Act → World → Prop} {md : Region.Mode} {S : World → Prop} {i : Nat} {oi : Oper} {v X L H : Value} {fuel : Nat} {listed : Array Bool} {a : Act} {w : World} {t : TypeId} {x l h : Operand}
theorem held_cut (hi : ops[i]? = some oi) (hs : Region.noSelect ops = true) (hf : Region.free md ops listed i = true) (hr : (Region.ready md ops listed).contains i = true)
    (hQ : ∀ c a w, Q (.panic c) (a.put oi.dst v) w → Q (.panic c) a w) (hw : Region.wanted oi (yielded ops a.tmps) = true) (ho : oi.op = .slice t x (some l) (some h) none) (hx : a.eval x = X) (hl : a.eval l = L) (hh : a.eval h = H)
    (hrun : ∀ w, (Instr.sliceAt t X (some L) (some H) none).run P w = .ok v w) (hS : S w)
    (hk : wpAnyH P md ops Q S fuel (listed.setIfInBounds i true) (a.put oi.dst v) w) : wpAnyH P md ops Q S (fuel + 1) listed a w :=
  held_on hi hs hf hr hQ hw (fun w _ => by simp [execOp, ho, hx, hl, hh, hrun w, Result.andThen]) hS hk
end
end Go.Proofs.YtjnnblcafocdoaaDoor
