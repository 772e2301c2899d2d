/-
  Data and All of package chain, and the document's own Data, each met by a contract: the plain numbers 'many' and 'allOf', at most new blocks.
-/
import Derived.Test.YtpdhlnkdjcghpaaChainNum
import Derived.Test.YtpdhlnkdjcghpaaUnitMany
import Derived.Test.YtpdhlnkdjcghpaaUnitRefMany
import Derived.Lib.Hide
namespace Go.Proofs.Ytpdhlnkdjcghpaa
open Go.ChangeShapes Go.WideShapes Go.ChangeAt Go.RowKit

theorem data_any (n b : Int) (w : World) (hm : n ≤ 9223372036854775807) :
    Calls Try.prog 26 #[.int .i64 n, .int .i64 b] w (F2 (many n b) w) := by
  go_enter Try.func26, Try.ntmps26
  go_wp2_with fail
  refine (many_any n b w hm).mono ?_
  rintro e w' ⟨rfl, f⟩
  go_wp2
  go_ret
  exact ⟨rfl, f⟩
theorem refData_any (n b : Int) (w : World) (hm : n ≤ 9223372036854775807) :
    Calls Try.prog 25 #[.int .i64 n, .int .i64 b] w (R1 (many n b) w) := by
  go_enter Try.func25, Try.ntmps25
  go_wp2_with fail
  refine (refMany_any n b w hm).mono ?_
  rintro e w' ⟨rfl, rfl⟩
  go_wp2
  go_ret
  exact ⟨rfl, rfl⟩
theorem all_any (n b : Int) (w : World) (hm : n ≤ 9223372036854775807) :
    Calls Try.prog 29 #[.int .i64 n, .int .i64 b] w (F2 (allOf n b) w) := by
  have hq : 0 ≤ many n b ∧ many n b ≤ 9223372036854775807 := by
    by_cases h : n < 1 ∨ b < 1
    · rw [many_off h]; omega
    · have := many_facts (n := n) (b := b) (by omega) (by omega); omega
  unfold allOf
  have HD := Lib.hid (data_any n b w hm)
  generalize many n b = q at HD hq ⊢
  by_cases h0 : q = 0
  · rw [if_pos (.inl h0)]
    have e0 : (q == 0) = true := by simpa using h0
    have H0 := Lib.hid h0
    clear h0
    go_enter Try.func29, Try.ntmps29
    go_wp2_with fail
    refine HD.out.mono ?_
    rintro e w' ⟨rfl, f⟩
    go_wp2
    go_ret
    exact ⟨rfl, f⟩
  · have e0 : (q == 0) = false := by simpa using h0
    by_cases h1 : q = 9223372036854775807
    · rw [if_pos (.inr h1)]
      have e1 : (q == 9223372036854775807) = true := by simpa using h1
      clear h0 h1
      go_enter Try.func29, Try.ntmps29
      go_wp2_with fail
      refine HD.out.mono ?_
      rintro e w' ⟨rfl, f⟩
      go_wp2
      go_ret
      exact ⟨rfl, f⟩
    · rw [if_neg (by omega)]
      have e1 : (q == 9223372036854775807) = false := by simpa using h1
      have hlt : q < 9223372036854775807 := by omega
      clear h0 h1
      go_enter Try.func29, Try.ntmps29
      go_wp2_with fail
      refine HD.out.mono ?_
      rintro e w' ⟨rfl, f⟩
      go_wp2
      go_ret
      exact ⟨rfl, f⟩
end Go.Proofs.Ytpdhlnkdjcghpaa
