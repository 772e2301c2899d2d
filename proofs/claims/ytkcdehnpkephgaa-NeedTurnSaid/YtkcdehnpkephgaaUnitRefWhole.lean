/-
  The document's own answer for unit.Whole (almeryref01.Whole), met by a contract: it returns the plain number 'whole' and leaves the memory alone.
-/
import Derived.Test.YtkcdehnpkephgaaUnitNum
import Derived.Test.YtkcdehnpkephgaaFresh
namespace Go.Proofs.Ytkcdehnpkephgaa
open Go.ChangeShapes Go.WideShapes Go.ChangeAt Go.RowKit

theorem refWhole_any (n b : Int) (w : World) (hm : n ≤ 9223372036854775807) :
    Calls Try.prog 37 #[.int .i64 n, .int .i64 b] w fun e w' => e = .returned (.int .i64 (whole n b)) ∧ w = w' := by
  by_cases h1 : n < 1
  · rw [whole_off (.inl h1)]
    go_enter Try.func37, Try.ntmps37
    go_wp2
    go_ret
    exact ⟨rfl, rfl⟩
  · by_cases h2 : b < 1
    · rw [whole_off (.inr h2)]
      go_enter Try.func37, Try.ntmps37
      go_wp2
      go_ret
      exact ⟨rfl, rfl⟩
    · have hn : 1 ≤ n := by omega
      have hb : 1 ≤ b := by omega
      obtain ⟨g1, g2, g3, g4, g5⟩ := div_facts hn hb
      clear g3
      rw [whole_on hn hb]
      go_enter Try.func37, Try.ntmps37
      go_wp2
      go_ret
      exact ⟨rfl, rfl⟩
end Go.Proofs.Ytkcdehnpkephgaa
