/-
  Up and Spare of package unit, each met by a contract: whatever two ints come in, they return the plain numbers 'upTo' and 'spare', and lay at most new blocks behind the memory that was there. No condition but that both are ints of 64 bits.
-/
import Derived.Test.YtnkbaombdlbkdaaUnit
namespace Go.Proofs.Ytnkbaombdlbkdaa
open Go.ChangeShapes Go.WideShapes Go.ChangeAt Go.RowKit

theorem many_facts {n b : Int} (hn : 1 ≤ n) (hb : 1 ≤ b) : 1 ≤ many n b ∧ many n b ≤ n ∧ n ≤ many n b * b ∧ many n b * b < n + b := by
  obtain ⟨h1, h2, h3, h4, h5⟩ := div_facts hn hb
  by_cases h0 : n % b = 0
  · rw [many_even hn hb h0]
    have : n / b ≠ 0 := fun e => by rw [e] at h3; omega
    omega
  · rw [many_odd hn hb h0]
    have h6 := div_lt hn hb h0
    rw [Int.add_mul, Int.one_mul]
    omega

theorem upTo_pos {n b : Int} (h : many n b * b ≤ 9223372036854775807) : upTo n b = many n b * b := if_pos h
theorem upTo_over {n b : Int} (h : ¬ many n b * b ≤ 9223372036854775807) : upTo n b = 0 := if_neg h
theorem upTo_bounds (n b : Int) : 0 ≤ upTo n b ∧ upTo n b ≤ 9223372036854775807 ∧ (upTo n b = 0 ∨ (1 ≤ n ∧ 1 ≤ b ∧ n ≤ upTo n b)) := by
  by_cases h : n < 1 ∨ b < 1
  · rw [upTo_off h]; omega
  · have hf := many_facts (n := n) (b := b) (by omega) (by omega)
    by_cases g : many n b * b ≤ 9223372036854775807
    · rw [upTo_pos g]; omega
    · rw [upTo_over g]; omega

theorem countU_any (n b : Int) (w : World) (hn : 1 ≤ n) (hb : 1 ≤ b) (hm : n ≤ 9223372036854775807) :
    Calls Try.prog 19 #[.int .u64 n, .int .u64 b] w fun e w' => e = .returned (.tuple #[.int .u64 (n / b), .int .u64 (many n b)]) ∧ w = w' := by
  by_cases h0 : n % b = 0
  · rw [many_even hn hb h0]; exact countU_even n b w hn hb hm (by simpa using h0)
  · rw [many_odd hn hb h0]; exact countU_odd n b w hn hb hm (by simpa using h0)

theorem up_wrong (n b : Int) (w : World) (h : n < 1 ∨ b < 1) :
    Calls Try.prog 13 #[.int .i64 n, .int .i64 b] w (F2 0 w) := by
  by_cases h1 : n < 1
  · clear h
    go_enter Try.func13, Try.ntmps13
    go_wp2_with fail
    refine (wrongOf_any n b w).mono ?_
    rintro e w' ⟨rfl, rfl⟩
    go_wp2
    go_ret
    exact ⟨rfl, fresh2 _ _ _ _ _⟩
  · have h2 : b < 1 := by omega
    clear h
    go_enter Try.func13, Try.ntmps13
    go_wp2_with fail
    refine (wrongOf_any n b w).mono ?_
    rintro e w' ⟨rfl, rfl⟩
    go_wp2
    go_ret
    exact ⟨rfl, fresh2 _ _ _ _ _⟩

theorem up_fits (n b : Int) (w : World) (hn : 1 ≤ n) (hb : 1 ≤ b) (hm : n ≤ 9223372036854775807) (hk : b ≤ 9223372036854775807) (h : many n b * b ≤ 9223372036854775807) :
    Calls Try.prog 13 #[.int .i64 n, .int .i64 b] w (F2 (many n b * b) w) := by
  obtain ⟨g1, g2, g3, g4⟩ := many_facts hn hb
  go_enter Try.func13, Try.ntmps13
  go_wp2_with (first | (go_at_call 17; refine (wrongOf_any n b w).mono ?_; rintro e w' ⟨rfl, rfl⟩) | (go_at_call 20; go_in) | (go_at_call 19; refine (countU_any n b _ hn hb hm).mono ?_; rintro e w' ⟨rfl, rfl⟩))
  go_ret
  exact ⟨rfl, fresh2 _ _ _ _ _⟩

theorem up_over (n b : Int) (w : World) (hn : 1 ≤ n) (hb : 1 ≤ b) (hm : n ≤ 9223372036854775807) (hk : b ≤ 9223372036854775807) (h : 9223372036854775807 < many n b * b) :
    Calls Try.prog 13 #[.int .i64 n, .int .i64 b] w (F2 0 w) := by
  obtain ⟨g1, g2, g3, g4⟩ := many_facts hn hb
  go_enter Try.func13, Try.ntmps13
  go_wp2_with (first | (go_at_call 17; refine (wrongOf_any n b w).mono ?_; rintro e w' ⟨rfl, rfl⟩) | (go_at_call 20; go_in) | (go_at_call 19; refine (countU_any n b _ hn hb hm).mono ?_; rintro e w' ⟨rfl, rfl⟩))
  go_ret
  exact ⟨rfl, fresh2 _ _ _ _ _⟩

/-- UP: whatever two ints come in. -/
theorem up_any (n b : Int) (w : World) (hm : n ≤ 9223372036854775807) (hk : b ≤ 9223372036854775807) :
    Calls Try.prog 13 #[.int .i64 n, .int .i64 b] w (F2 (upTo n b) w) := by
  by_cases h : n < 1 ∨ b < 1
  · rw [upTo_off h]; exact up_wrong n b w h
  · by_cases g : many n b * b ≤ 9223372036854775807
    · rw [upTo_pos g]; exact up_fits n b w (by omega) (by omega) hm hk g
    · rw [upTo_over g]; exact up_over n b w (by omega) (by omega) hm hk (by omega)

/-- SPARE: whatever two ints come in. -/
theorem spare_any (n b : Int) (w : World) (hm : n ≤ 9223372036854775807) (hk : b ≤ 9223372036854775807) :
    Calls Try.prog 15 #[.int .i64 n, .int .i64 b] w (F2 (spare n b) w) := by
  obtain ⟨u1, u2, u3⟩ := upTo_bounds n b
  by_cases h : upTo n b = 0
  · rw [show spare n b = 0 from if_pos h]
    have h' : (upTo n b == 0) = true := by simpa using h
    clear h u3
    go_enter Try.func15, Try.ntmps15
    go_wp2_with fail
    refine (up_any n b w hm hk).mono ?_
    rintro e w' ⟨rfl, hf⟩
    go_wp2
    go_ret
    exact ⟨rfl, hf⟩
  · rw [show spare n b = upTo n b - n from if_neg h]
    have h' : (upTo n b == 0) = false := by simpa using h
    have h1 : 1 ≤ n := by omega
    have h2 : n ≤ upTo n b := by omega
    clear h u3
    go_enter Try.func15, Try.ntmps15
    go_wp2_with fail
    refine (up_any n b w hm hk).mono ?_
    rintro e w' ⟨rfl, hf⟩
    go_wp2
    go_ret
    exact ⟨rfl, hf⟩
end Go.Proofs.Ytnkbaombdlbkdaa
