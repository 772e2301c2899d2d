/-
  The function within of package conf, met by a contract; and a word for a call that boxes its layout.
-/
import Derived.Test.YtpdhlnkdjcghpaaConfNum
namespace Go.Proofs.Ytpdhlnkdjcghpaa
open Go.ChangeShapes Go.WideShapes Go.ChangeAt Go.RowKit

theorem within_any (n lo hi : Int) (w : World) : Calls Try.prog 38 #[.int .i64 n, .int .i64 lo, .int .i64 hi] w (B1 (inB n lo hi) w) := by
  by_cases h1 : n < lo
  · rw [inB_low h1]
    go_enter Try.func38, Try.ntmps38
    go_wp2
    go_ret
    exact ⟨rfl, rfl⟩
  · by_cases h2 : hi < n
    · rw [inB_high h2]
      have hd : decide (n ≤ hi) = false := by simpa using h2
      go_enter Try.func38, Try.ntmps38
      go_wp2
      go_ret
      exact ⟨rfl, rfl⟩
    · rw [inB_true.2 ⟨by omega, by omega⟩]
      have hd : decide (n ≤ hi) = true := by simpa using h2
      go_enter Try.func38, Try.ntmps38
      go_wp2
      go_ret
      exact ⟨rfl, rfl⟩

/-- It returns the int P, and boxes the layout. -/
def IBox (P : Int) (c : Cf) (w : World) (e : Ending) (w' : World) : Prop :=
  e = .returned (.int .i64 P) ∧ w' = w.alloc (.cells #[.int .i64 c.size, .int .i64 c.pages, .slice c.ca c.cn c.cc, .slice c.ka c.kn c.kc, .int .i64 c.step, .int .i64 c.slots, .int .i64 c.gens, .int .i64 c.most] 24)
end Go.Proofs.Ytpdhlnkdjcghpaa
