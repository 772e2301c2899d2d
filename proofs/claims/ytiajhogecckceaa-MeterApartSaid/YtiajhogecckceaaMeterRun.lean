/-
  A meter of the call's own, and how far its charges have come. No statement about a Go function.
-/
import Derived.Test.YtiajhogecckceaaMeter
import Derived.Test.YtiajhogecckceaaIntsOpen
namespace Go.Proofs.Ytiajhogecckceaa
open Go.ChangeShapes Go.WideShapes Go.ChangeAt Go.RowKit

/-- The first k of l are charged; a was the total at the last lap; below B all is as it was. -/
structure Run (l : List Int) (g B : Nat) (w : World) (k : Nat) (a : Int) (w' : World) : Prop where
  below : Below B w w'
  meter : Mt w' g (total 0 (l.take k)) a
section
variable {l : List Int} {g B : Nat} {w w' w'' : World} {k : Nat} {a x : Int}
theorem Run.on (h : Run l g B w k a w') (hB : B ≤ w.heap.size) (hg : B ≤ g) {t : Int} (m : Mt w'' g (total 0 (l.take k)) t) (b : But (· = g) w' w'') : Run l g B w k t w'' := ⟨h.below.trans (b.one (Nat.le_trans hB h.below.size) hg), m⟩
theorem Run.next (h : Run l g B w k a w') (hx : l[k]? = some x) (hB : B ≤ w.heap.size) (hg : B ≤ g) (m : Mt w'' g (more (total 0 (l.take k)) x) a) (b : But (· = g) w' w'') : Run l g B w (k + 1) a w'' :=
  ⟨h.below.trans (b.one (Nat.le_trans hB h.below.size) hg), by rw [total_take 0 hx]; exact m⟩
theorem Run.drewN (h : Run l g B w k a w') (n : Nat) : Run l g B w k a (w'.drewN n) := ⟨belowN h.below n, h.meter.drewN n⟩
end
end Go.Proofs.Ytiajhogecckceaa
