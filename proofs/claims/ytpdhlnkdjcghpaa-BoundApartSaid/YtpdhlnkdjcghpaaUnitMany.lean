/-
  Many of package unit, met by a contract: whatever two ints come in, it returns the plain number 'many', and lays at most new blocks.
-/
import Derived.Test.YtpdhlnkdjcghpaaUnitWrong
namespace Go.Proofs.Ytpdhlnkdjcghpaa
open Go.ChangeShapes Go.WideShapes Go.ChangeAt Go.RowKit

theorem many_wrong (n b : Int) (w : World) (h : n < 1 ∨ b < 1) :
    Calls Try.prog 33 #[.int .i64 n, .int .i64 b] w (F2 0 w) := by
  by_cases h1 : n < 1
  · clear h
    go_enter Try.func33, Try.ntmps33
    go_wp2_with fail
    refine (wrongOf_any n b w).mono ?_
    rintro e w' ⟨rfl, rfl⟩
    go_wp2
    go_ret
    exact ⟨rfl, fresh2 _ _ _ _ _⟩
  · have h2 : b < 1 := by omega
    clear h
    go_enter Try.func33, Try.ntmps33
    go_wp2_with fail
    refine (wrongOf_any n b w).mono ?_
    rintro e w' ⟨rfl, rfl⟩
    go_wp2
    go_ret
    exact ⟨rfl, fresh2 _ _ _ _ _⟩

theorem many_even_any (n b : Int) (w : World) (hn : 1 ≤ n) (hb : 1 ≤ b) (hm : n ≤ 9223372036854775807) (h : (n % b != 0) = false) :
    Calls Try.prog 33 #[.int .i64 n, .int .i64 b] w (F2 (n / b) w) := by
  go_enter Try.func33, Try.ntmps33
  go_wp2_with (first | (go_at_call 35; refine (wrongOf_any n b w).mono ?_; rintro e w' ⟨rfl, rfl⟩) | (go_at_call 39; go_in) | (go_at_call 36; refine (count_even n b _ hn hb hm h).mono ?_; rintro e w' ⟨rfl, rfl⟩))
  go_ret
  exact ⟨rfl, fresh2 _ _ _ _ _⟩

theorem many_odd_any (n b : Int) (w : World) (hn : 1 ≤ n) (hb : 1 ≤ b) (hm : n ≤ 9223372036854775807) (h : (n % b != 0) = true) :
    Calls Try.prog 33 #[.int .i64 n, .int .i64 b] w (F2 (n / b + 1) w) := by
  go_enter Try.func33, Try.ntmps33
  go_wp2_with (first | (go_at_call 35; refine (wrongOf_any n b w).mono ?_; rintro e w' ⟨rfl, rfl⟩) | (go_at_call 39; go_in) | (go_at_call 36; refine (count_odd n b _ hn hb hm h).mono ?_; rintro e w' ⟨rfl, rfl⟩))
  go_ret
  exact ⟨rfl, fresh2 _ _ _ _ _⟩

/-- MANY: whatever two ints come in. -/
theorem many_any (n b : Int) (w : World) (hm : n ≤ 9223372036854775807) :
    Calls Try.prog 33 #[.int .i64 n, .int .i64 b] w (F2 (many n b) w) := by
  by_cases h : n < 1 ∨ b < 1
  · rw [many_off h]; exact many_wrong n b w h
  · by_cases h0 : n % b = 0
    · rw [many_even (by omega) (by omega) h0]; exact many_even_any n b w (by omega) (by omega) hm (by simpa using h0)
    · rw [many_odd (by omega) (by omega) h0]; exact many_odd_any n b w (by omega) (by omega) hm (by simpa using h0)
end Go.Proofs.Ytpdhlnkdjcghpaa
