/-
  Whole of package unit, met by a contract: whatever two ints come in, it returns the plain number 'whole', and lays at most new blocks.
-/
import Derived.Test.YtkcdehnpkephgaaUnitWrong
namespace Go.Proofs.Ytkcdehnpkephgaa
open Go.ChangeShapes Go.WideShapes Go.ChangeAt Go.RowKit

theorem whole_wrong (n b : Int) (w : World) (h : n < 1 ∨ b < 1) :
    Calls Try.prog 42 #[.int .i64 n, .int .i64 b] w (F2 0 w) := by
  by_cases h1 : n < 1
  · clear h
    go_enter Try.func42, Try.ntmps42
    go_wp2_with fail
    refine (wrongOf_any n b w).mono ?_
    rintro e w' ⟨rfl, rfl⟩
    go_wp2
    go_ret
    exact ⟨rfl, fresh2 _ _ _ _ _⟩
  · have h2 : b < 1 := by omega
    clear h
    go_enter Try.func42, Try.ntmps42
    go_wp2_with fail
    refine (wrongOf_any n b w).mono ?_
    rintro e w' ⟨rfl, rfl⟩
    go_wp2
    go_ret
    exact ⟨rfl, fresh2 _ _ _ _ _⟩

theorem whole_even_any (n b : Int) (w : World) (hn : 1 ≤ n) (hb : 1 ≤ b) (hm : n ≤ 9223372036854775807) (h : (n % b != 0) = false) :
    Calls Try.prog 42 #[.int .i64 n, .int .i64 b] w (F2 (n / b) w) := by
  go_enter Try.func42, Try.ntmps42
  go_wp2_with (first | (go_at_call 40; refine (wrongOf_any n b w).mono ?_; rintro e w' ⟨rfl, rfl⟩) | (go_at_call 46; go_in) | (go_at_call 41; refine (count_even n b _ hn hb hm h).mono ?_; rintro e w' ⟨rfl, rfl⟩))
  go_ret
  exact ⟨rfl, fresh2 _ _ _ _ _⟩

theorem whole_odd_any (n b : Int) (w : World) (hn : 1 ≤ n) (hb : 1 ≤ b) (hm : n ≤ 9223372036854775807) (h : (n % b != 0) = true) :
    Calls Try.prog 42 #[.int .i64 n, .int .i64 b] w (F2 (n / b) w) := by
  go_enter Try.func42, Try.ntmps42
  go_wp2_with (first | (go_at_call 40; refine (wrongOf_any n b w).mono ?_; rintro e w' ⟨rfl, rfl⟩) | (go_at_call 46; go_in) | (go_at_call 41; refine (count_odd n b _ hn hb hm h).mono ?_; rintro e w' ⟨rfl, rfl⟩))
  go_ret
  exact ⟨rfl, fresh2 _ _ _ _ _⟩

/-- WHOLE: whatever two ints come in. -/
theorem whole_any (n b : Int) (w : World) (hm : n ≤ 9223372036854775807) :
    Calls Try.prog 42 #[.int .i64 n, .int .i64 b] w (F2 (whole n b) w) := by
  by_cases h : n < 1 ∨ b < 1
  · rw [whole_off h]; exact whole_wrong n b w h
  · rw [whole_on (by omega) (by omega)]
    by_cases h0 : n % b = 0
    · exact whole_even_any n b w (by omega) (by omega) hm (by simpa using h0)
    · exact whole_odd_any n b w (by omega) (by omega) hm (by simpa using h0)
end Go.Proofs.Ytkcdehnpkephgaa
