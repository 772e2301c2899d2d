/-
  The document's own answer for unit.Many (almeryref01.Many), met by a contract: it returns the plain number 'many' and leaves the memory alone. No condition but that both are ints of 64 bits.
-/
import Derived.Test.YtpdhlnkdjcghpaaUnitNum
import Derived.Test.YtpdhlnkdjcghpaaFresh
namespace Go.Proofs.Ytpdhlnkdjcghpaa
open Go.ChangeShapes Go.WideShapes Go.ChangeAt Go.RowKit

theorem refMany_any (n b : Int) (w : World) (hm : n ≤ 9223372036854775807) :
    Calls Try.prog 32 #[.int .i64 n, .int .i64 b] w fun e w' => e = .returned (.int .i64 (many n b)) ∧ w = w' := by
  by_cases h1 : n < 1
  · rw [many_off (.inl h1)]
    go_enter Try.func32, Try.ntmps32
    go_wp2
    go_ret
    exact ⟨rfl, rfl⟩
  · by_cases h2 : b < 1
    · rw [many_off (.inr h2)]
      go_enter Try.func32, Try.ntmps32
      go_wp2
      go_ret
      exact ⟨rfl, rfl⟩
    · have hn : 1 ≤ n := by omega
      have hb : 1 ≤ b := by omega
      obtain ⟨g1, g2, g3, g4, g5⟩ := div_facts hn hb
      clear g3
      by_cases h0 : n % b = 0
      · rw [many_even hn hb h0]
        have h3 : ¬ 0 < n % b := by omega
        clear h0
        go_enter Try.func32, Try.ntmps32
        go_wp2
        go_ret
        exact ⟨rfl, rfl⟩
      · rw [many_odd hn hb h0]
        have h3 : 0 < n % b := by omega
        have h4 := div_lt hn hb h0
        clear h0
        go_enter Try.func32, Try.ntmps32
        go_wp2
        go_ret
        exact ⟨rfl, rfl⟩
end Go.Proofs.Ytpdhlnkdjcghpaa
