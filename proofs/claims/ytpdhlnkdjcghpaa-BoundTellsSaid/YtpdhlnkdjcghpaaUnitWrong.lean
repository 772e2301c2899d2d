/-
  The callees of package unit: count and wrongOf, each met by a contract.
-/
import Derived.Test.YtpdhlnkdjcghpaaUnitNum
import Derived.Test.YtpdhlnkdjcghpaaFresh
namespace Go.Proofs.Ytpdhlnkdjcghpaa
open Go.ChangeShapes Go.WideShapes Go.ChangeAt Go.RowKit

/-! ### The callees -/
theorem count_even (n b : Int) (w : World) (hn : 1 ≤ n) (hb : 1 ≤ b) (hm : n ≤ 9223372036854775807) (h : (n % b != 0) = false) :
    Calls Try.prog 36 #[.int .i64 n, .int .i64 b] w fun e w' => e = .returned (.tuple #[.int .i64 (n / b), .int .i64 (n / b)]) ∧ w = w' := by
  obtain ⟨h1, h2, h3, h4, h5⟩ := div_facts hn hb
  clear h3
  go_enter Try.func36, Try.ntmps36
  go_wp2
  go_ret2
  exact ⟨rfl, rfl⟩

theorem count_odd (n b : Int) (w : World) (hn : 1 ≤ n) (hb : 1 ≤ b) (hm : n ≤ 9223372036854775807) (h : (n % b != 0) = true) :
    Calls Try.prog 36 #[.int .i64 n, .int .i64 b] w fun e w' => e = .returned (.tuple #[.int .i64 (n / b), .int .i64 (n / b + 1)]) ∧ w = w' := by
  obtain ⟨h1, h2, h3, h4, h5⟩ := div_facts hn hb
  have h6 := div_lt hn hb (by simpa using h)
  clear h3
  go_enter Try.func36, Try.ntmps36
  go_wp2
  go_ret2
  exact ⟨rfl, rfl⟩

/-- The closure that tells what is wrong, made. -/
theorem wrongOf_any (n b : Int) (w : World) :
    Calls Try.prog 35 #[.int .i64 n, .int .i64 b] w fun e w' => e = .returned (.func (.func 39) #[] #[.pointer (some ⟨w.heap.size, 0, none⟩), .pointer (some ⟨w.heap.size + 1, 0, none⟩)]) ∧ w' = (w.alloc (.cells #[.int .i64 n] 3)).alloc (.cells #[.int .i64 b] 3) := by
  have hmf : ∀ (fn : Fn) (first cap : Array Value) (w : World), (Instr.makeFunc fn first cap).run Try.prog w = .ok (.func fn first cap) w := fun _ _ _ _ => rfl
  go_enter Try.func35, Try.ntmps35
  go_wp2
  go_ret
  exact ⟨rfl, rfl⟩
theorem fresh2 (w : World) (c d : Array Value) (t u : TypeId) : Fresh w ((w.alloc (.cells c t)).alloc (.cells d u)) := ((Fresh.refl w).alloc c t).alloc d u
end Go.Proofs.Ytpdhlnkdjcghpaa
