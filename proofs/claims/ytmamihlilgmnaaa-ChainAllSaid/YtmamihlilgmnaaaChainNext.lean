/-
  The closure of package chain that takes a page's bytes off those that are left (cutter$1), and its maker (cutter), each met by a contract: a span, and what is left behind it.
-/
import Derived.Test.YtmamihlilgmnaaaChainNum
import Derived.Test.YtmamihlilgmnaaaUnitWhole
import Derived.Test.YtmamihlilgmnaaaCells
import Derived.Test.YtmamihlilgmnaaaAppImp
import Derived.Lib.Hide
import Derived.Lib.MinMax
namespace Go.Proofs.Ytmamihlilgmnaaa
open Go.ChangeShapes Go.WideShapes Go.ChangeAt Go.RowKit

/-- Three boxes: where the bytes that are left begin, how many they are, a page's bytes. -/
structure Bxs (w : World) (c : Nat) (x n p : Nat) : Prop where
  at_ : Cs w c [.int .i64 (x : Int)]
  n : Cs w (c + 1) [.int .i64 (n : Int)]
  page : Cs w (c + 2) [.int .i64 (p : Int)]
theorem Bxs.but {S : Nat → Prop} {w w' : World} {c x n p : Nat} (h : Bxs w c x n p) (hb : But S w w') (hn : ¬ S c ∧ ¬ S (c + 1) ∧ ¬ S (c + 2)) : Bxs w' c x n p :=
  ⟨h.at_.but hb hn.1, h.n.but hb hn.2.1, h.page.but hb hn.2.2⟩
theorem Bxs.lt {w : World} {c x n p : Nat} (h : Bxs w c x n p) : c + 2 < w.heap.size := h.page.size
/-- The memory that three boxes take. -/
def three (w : World) (x n p : Nat) : World := ((w.alloc (.cells #[.int .i64 (x : Int)] 3)).alloc (.cells #[.int .i64 (n : Int)] 3)).alloc (.cells #[.int .i64 (p : Int)] 3)
theorem three_box (w : World) (x n p : Nat) : Bxs (three w x n p) w.heap.size x n p ∧ Below w.heap.size w (three w x n p) ∧ (three w x n p).heap.size = w.heap.size + 3 := by
  have b1 := below1 w (.cells #[.int .i64 (x : Int)] 3)
  have b2 := below1 (w.alloc (.cells #[.int .i64 (x : Int)] 3)) (.cells #[.int .i64 (n : Int)] 3)
  have b3 := below1 ((w.alloc (.cells #[.int .i64 (x : Int)] 3)).alloc (.cells #[.int .i64 (n : Int)] 3)) (.cells #[.int .i64 (p : Int)] 3)
  refine ⟨⟨((Cs.new w _ _ rfl).below b2).below b3, ((Cs.new (w.alloc _) _ _ rfl).at_ (by simp)).below b3, (Cs.new ((w.alloc _).alloc _) _ _ rfl).at_ (by simp)⟩, belowT (belowT b1 b2) b3, by simp [three]⟩

def Sp.cells (u : Sp) : List Value := [.int .i64 (u.n : Int), .int .i64 (u.a : Int), .int .i64 (u.l : Int)]
def Sp.val (u : Sp) : Value := .agg #[.int .i64 (u.n : Int), .int .i64 (u.a : Int), .int .i64 (u.l : Int)]

theorem cutter_any (x n p : Nat) (w : World) :
    Calls Try.prog 18 #[.int .i64 (x : Int), .int .i64 (n : Int), .int .i64 (p : Int)] w fun e w' => e = .returned (.func (.func 21) #[] #[.pointer (some ⟨w.heap.size, 0, none⟩), .pointer (some ⟨w.heap.size + 2, 0, none⟩), .pointer (some ⟨w.heap.size + 1, 0, none⟩)]) ∧ w' = three w x n p := by
  have hmf : ∀ (fn : Fn) (first cap : Array Value) (w : World), (Instr.makeFunc fn first cap).run Try.prog w = .ok (.func fn first cap) w := fun _ _ _ _ => rfl
  go_enter Try.func18, Try.ntmps18
  go_wp2
  go_ret
  exact ⟨rfl, rfl⟩
theorem spans_any (x n p : Nat) (w : World) :
    Calls Try.prog 14 #[.int .i64 (x : Int), .int .i64 (n : Int), .int .i64 (p : Int)] w fun e w' => e = .returned (.func (.func 17) #[] #[.pointer (some ⟨w.heap.size, 0, none⟩), .pointer (some ⟨w.heap.size + 1, 0, none⟩), .pointer (some ⟨w.heap.size + 2, 0, none⟩)]) ∧ w' = three w x n p := by
  have hmf : ∀ (fn : Fn) (first cap : Array Value) (w : World), (Instr.makeFunc fn first cap).run Try.prog w = .ok (.func fn first cap) w := fun _ _ _ _ => rfl
  go_enter Try.func14, Try.ntmps14
  go_wp2
  go_ret
  exact ⟨rfl, rfl⟩

end Go.Proofs.Ytmamihlilgmnaaa
