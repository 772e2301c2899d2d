/-
  How many bytes tell each of an operation's numbers: the package's 'widths', in memory (Wd: block 0) and as a value. No statement about a Go function.
-/
import Derived.Test.YtjnnblcafocdoaaDoorOpWord
namespace Go.Proofs.YtjnnblcafocdoaaDoor
open Go.ChangeShapes Go.WideShapes Go.ChangeAt Go.RowKit

/-- The package's widths stand in block 0, as its text lays them. -/
structure Wd (w : World) : Prop where
  c0 : w.cell? ⟨0, 0, none⟩ = some (.int .i64 1)
  c1 : w.cell? ⟨0, 1, none⟩ = some (.int .i64 8)
  c2 : w.cell? ⟨0, 2, none⟩ = some (.int .i64 8)
  c3 : w.cell? ⟨0, 3, none⟩ = some (.int .i64 8)
  c4 : w.cell? ⟨0, 4, none⟩ = some (.int .i64 2)
theorem Wd.pos {w : World} (h : Wd w) : 0 < w.heap.size := World.block_lt_of_cell? w ⟨0, 0, none⟩ h.c0
theorem Wd.below {w w' : World} {B : Nat} (h : Wd w) (hB : 0 < B) (b : Below B w w') : Wd w' :=
  ⟨(b.cell (p := ⟨0, 0, none⟩) hB).trans h.c0, (b.cell (p := ⟨0, 1, none⟩) hB).trans h.c1, (b.cell (p := ⟨0, 2, none⟩) hB).trans h.c2, (b.cell (p := ⟨0, 3, none⟩) hB).trans h.c3, (b.cell (p := ⟨0, 4, none⟩) hB).trans h.c4⟩
theorem Wd.next {w w' : World} (h : Wd w) (b : Below w.heap.size w w') : Wd w' := h.below h.pos b

def wid : Nat → Nat
  | 0 => 1
  | 1 => 8
  | 2 => 8
  | 3 => 8
  | _ => 2
def off19 : Nat → Nat
  | 0 => 0
  | 1 => 1
  | 2 => 9
  | 3 => 17
  | 4 => 25
  | _ => 27
def num19 (k h a b m : Int) : Nat → Int
  | 0 => k
  | 1 => h
  | 2 => a
  | 3 => b
  | _ => m
theorem five {j : Nat} (h : j < 5) : j = 0 ∨ j = 1 ∨ j = 2 ∨ j = 3 ∨ j = 4 := by omega
theorem wid_le {j : Nat} : wid j ≤ 8 := by unfold wid; split <;> omega
theorem off_step {j : Nat} (h : j < 5) : off19 (j + 1) = off19 j + wid j := by rcases five h with rfl | rfl | rfl | rfl | rfl <;> rfl
theorem off_le {j : Nat} : off19 j ≤ 27 := by unfold off19; split <;> omega
theorem off_wid {j : Nat} (h : j < 5) : off19 j + wid j ≤ 27 := by rcases five h with rfl | rfl | rfl | rfl | rfl <;> decide
theorem ahead_step (k h a b m : Int) {j : Nat} (hj : j < 5) : ahead19 k h a b m (j + 1) = ahead19 k h a b m j ++ bytesOf (wid j) (num19 k h a b m j) := by
  rcases five hj with rfl | rfl | rfl | rfl | rfl <;> simp [ahead19, wid, num19]
theorem num_at (k h a b m : Int) {j : Nat} (hj : j < 5) : ([.int .i64 k, .int .i64 h, .int .i64 a, .int .i64 b, .int .i64 m] : List Value)[j]? = some (.int .i64 (num19 k h a b m j)) := by
  rcases five hj with rfl | rfl | rfl | rfl | rfl <;> rfl
theorem wid_at (w : World) {n : Nat} (hn : n < 5) :
    (Instr.index 41 (.agg #[.int .i64 1, .int .i64 8, .int .i64 8, .int .i64 8, .int .i64 2]) (.int .i64 (n : Int))).run Tryd.prog w = .ok (.int .i64 ((wid n : Nat) : Int)) w := by
  rcases five hn with rfl | rfl | rfl | rfl | rfl <;> kernel_rfl
end Go.Proofs.YtjnnblcafocdoaaDoor
