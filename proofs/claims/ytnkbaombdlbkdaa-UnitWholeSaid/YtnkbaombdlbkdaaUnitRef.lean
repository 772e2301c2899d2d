/-
  The document's own answers for package unit (package almeryref01), each met by a contract: they return the plain numbers 'many', 'whole', 'upTo', 'spare' and leave the memory alone. No condition but that both are ints of 64 bits.
-/
import Derived.Test.YtnkbaombdlbkdaaUnitUp
namespace Go.Proofs.Ytnkbaombdlbkdaa
open Go.ChangeShapes Go.WideShapes Go.ChangeAt Go.RowKit

/-! ### The document's own answers -/
theorem refMany_any (n b : Int) (w : World) (hm : n ≤ 9223372036854775807) :
    Calls Try.prog 10 #[.int .i64 n, .int .i64 b] w fun e w' => e = .returned (.int .i64 (many n b)) ∧ w = w' := by
  by_cases h1 : n < 1
  · rw [many_off (.inl h1)]
    go_enter Try.func10, Try.ntmps10
    go_wp2
    go_ret
    exact ⟨rfl, rfl⟩
  · by_cases h2 : b < 1
    · rw [many_off (.inr h2)]
      go_enter Try.func10, Try.ntmps10
      go_wp2
      go_ret
      exact ⟨rfl, rfl⟩
    · have hn : 1 ≤ n := by omega
      have hb : 1 ≤ b := by omega
      obtain ⟨g1, g2, g3, g4, g5⟩ := div_facts hn hb
      clear g3
      by_cases h0 : n % b = 0
      · rw [many_even hn hb h0]
        have h3 : ¬ 0 < n % b := by omega
        clear h0
        go_enter Try.func10, Try.ntmps10
        go_wp2
        go_ret
        exact ⟨rfl, rfl⟩
      · rw [many_odd hn hb h0]
        have h3 : 0 < n % b := by omega
        have h4 := div_lt hn hb h0
        clear h0
        go_enter Try.func10, Try.ntmps10
        go_wp2
        go_ret
        exact ⟨rfl, rfl⟩

theorem refWhole_any (n b : Int) (w : World) (hm : n ≤ 9223372036854775807) :
    Calls Try.prog 12 #[.int .i64 n, .int .i64 b] w fun e w' => e = .returned (.int .i64 (whole n b)) ∧ w = w' := by
  by_cases h1 : n < 1
  · rw [whole_off (.inl h1)]
    go_enter Try.func12, Try.ntmps12
    go_wp2
    go_ret
    exact ⟨rfl, rfl⟩
  · by_cases h2 : b < 1
    · rw [whole_off (.inr h2)]
      go_enter Try.func12, Try.ntmps12
      go_wp2
      go_ret
      exact ⟨rfl, rfl⟩
    · have hn : 1 ≤ n := by omega
      have hb : 1 ≤ b := by omega
      obtain ⟨g1, g2, g3, g4, g5⟩ := div_facts hn hb
      clear g3
      rw [whole_on hn hb]
      go_enter Try.func12, Try.ntmps12
      go_wp2
      go_ret
      exact ⟨rfl, rfl⟩

/-- The greatest int by b: as many as hold a product that is an int. -/
theorem most_div {m b : Int} (hb : 1 ≤ b) : 9223372036854775807 / b < m ↔ 9223372036854775807 < m * b := by
  have := Int.le_ediv_iff_mul_le (a := m) (b := 9223372036854775807) (c := b) (by omega)
  omega

theorem refUp_any (n b : Int) (w : World) (hm : n ≤ 9223372036854775807) (hk : b ≤ 9223372036854775807) :
    Calls Try.prog 14 #[.int .i64 n, .int .i64 b] w fun e w' => e = .returned (.int .i64 (upTo n b)) ∧ w = w' := by
  by_cases h : n < 1 ∨ b < 1
  · rw [upTo_off h]
    have hz : (many n b == 0) = true := by simpa using many_off h
    clear h
    go_enter Try.func14, Try.ntmps14
    go_wp2_with fail
    refine (refMany_any n b w hm).mono ?_
    rintro e w' ⟨rfl, rfl⟩
    go_wp2
    go_ret
    exact ⟨rfl, rfl⟩
  · have hn : 1 ≤ n := by omega
    have hb : 1 ≤ b := by omega
    obtain ⟨g1, g2, g3, g4⟩ := many_facts hn hb
    have hz : (many n b == 0) = false := by simp; omega
    by_cases g : many n b * b ≤ 9223372036854775807
    · rw [upTo_pos g]
      have hq : ¬ 9223372036854775807 / b < many n b := by rw [most_div hb]; omega
      clear h
      go_enter Try.func14, Try.ntmps14
      go_wp2_with fail
      refine (refMany_any n b w hm).mono ?_
      rintro e w' ⟨rfl, rfl⟩
      go_wp2
      go_ret
      exact ⟨rfl, rfl⟩
    · rw [upTo_over g]
      have hq : 9223372036854775807 / b < many n b := by rw [most_div hb]; omega
      clear h
      go_enter Try.func14, Try.ntmps14
      go_wp2_with fail
      refine (refMany_any n b w hm).mono ?_
      rintro e w' ⟨rfl, rfl⟩
      go_wp2
      go_ret
      exact ⟨rfl, rfl⟩

theorem refSpare_any (n b : Int) (w : World) (hm : n ≤ 9223372036854775807) (hk : b ≤ 9223372036854775807) :
    Calls Try.prog 16 #[.int .i64 n, .int .i64 b] w fun e w' => e = .returned (.int .i64 (spare n b)) ∧ w = w' := by
  obtain ⟨u1, u2, u3⟩ := upTo_bounds n b
  by_cases h : upTo n b = 0
  · rw [show spare n b = 0 from if_pos h]
    have h' : (upTo n b == 0) = true := by simpa using h
    clear h u3
    go_enter Try.func16, Try.ntmps16
    go_wp2_with (go_at_call 14; refine (refUp_any n b _ hm hk).mono ?_; rintro e w' ⟨rfl, rfl⟩)
    go_ret
    exact ⟨rfl, rfl⟩
  · rw [show spare n b = upTo n b - n from if_neg h]
    have h' : (upTo n b == 0) = false := by simpa using h
    have h1 : 1 ≤ n := by omega
    have h2 : n ≤ upTo n b := by omega
    clear h u3
    go_enter Try.func16, Try.ntmps16
    go_wp2_with (go_at_call 14; refine (refUp_any n b _ hm hk).mono ?_; rintro e w' ⟨rfl, rfl⟩)
    go_ret
    exact ⟨rfl, rfl⟩

/-! ### The statements' common beginning: nine by eight -/
theorem awake_any (w : World) : Calls Try.prog 8 #[] w fun e w' => e = .returned (.bool true) ∧ Fresh w w' := by
  have e1 : many 9 8 = 2 := by decide
  have e2 : upTo 9 8 = 16 := by decide
  have e3 : spare 9 8 = 7 := by decide
  have e4 : whole 9 8 = 1 := by decide
  have e5 : many 0 8 = 0 := by decide
  go_enter Try.func8, Try.ntmps8
  go_wp2_with fail
  refine (many_any 9 8 w (by omega)).mono ?_
  rintro e w1 ⟨rfl, f1⟩
  go_wp2_with fail
  refine (up_any 9 8 w1 (by omega) (by omega)).mono ?_
  rintro e w2 ⟨rfl, f2⟩
  go_wp2_with fail
  refine (spare_any 9 8 w2 (by omega) (by omega)).mono ?_
  rintro e w3 ⟨rfl, f3⟩
  go_wp2_with fail
  refine (whole_any 9 8 w3 (by omega)).mono ?_
  rintro e w4 ⟨rfl, f4⟩
  go_wp2_with fail
  refine (many_any 0 8 w4 (by omega)).mono ?_
  rintro e w5 ⟨rfl, f5⟩
  go_wp2
  go_ret
  exact ⟨rfl, (((f1.trans f2).trans f3).trans f4).trans f5⟩
end Go.Proofs.Ytnkbaombdlbkdaa
