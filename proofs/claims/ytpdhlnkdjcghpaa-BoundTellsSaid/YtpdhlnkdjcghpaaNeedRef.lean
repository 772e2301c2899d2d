/-
  The document's own answers for package need: Is, Live, and almeryref16.All, met by contracts: the plain 'isT', 'liveN', 'allOf'; all memory that was there is as it was.
-/
import Derived.Test.YtpdhlnkdjcghpaaNeedNum
import Derived.Test.YtpdhlnkdjcghpaaConfBox
import Derived.Test.YtpdhlnkdjcghpaaChainAsk
import Derived.Test.YtpdhlnkdjcghpaaClassPick
import Derived.Deep.RegionHeld3
namespace Go.Proofs.Ytpdhlnkdjcghpaa
open Go.ChangeShapes Go.WideShapes Go.ChangeAt Go.RowKit

theorem refAll_any (n b : Int) (w : World) (hm : n ≤ 9223372036854775807) :
    Calls Try.prog 24 #[.int .i64 n, .int .i64 b] w (R1 (allOf n b) w) := by
  have hq : 0 ≤ many n b ∧ many n b ≤ 9223372036854775807 := by
    by_cases h : n < 1 ∨ b < 1
    · rw [many_off h]; omega
    · have := many_facts (n := n) (b := b) (by omega) (by omega); omega
  unfold allOf
  have HD := Lib.hid (fun v => refData_any n b v hm)
  generalize many n b = q at HD hq ⊢
  by_cases h0 : q = 0
  · rw [if_pos (.inl h0)]
    have e0 : (q == 0) = true := by simpa using h0
    clear h0
    go_enter Try.func24, Try.ntmps24
    go_wp2_with (first | (go_at_call 25; refine (HD.out _).mono ?_; rintro e w' ⟨rfl, rfl⟩))
    go_ret
    exact ⟨rfl, rfl⟩
  · have e0 : (q == 0) = false := by simpa using h0
    by_cases h1 : q = 9223372036854775807
    · rw [if_pos (.inr h1)]
      have e1 : (q == 9223372036854775807) = true := by simpa using h1
      clear h0 h1
      go_enter Try.func24, Try.ntmps24
      go_wp2_with (first | (go_at_call 25; refine (HD.out _).mono ?_; rintro e w' ⟨rfl, rfl⟩))
      go_ret
      exact ⟨rfl, rfl⟩
    · rw [if_neg (by omega)]
      have e1 : (q == 9223372036854775807) = false := by simpa using h1
      have hlt : q < 9223372036854775807 := by omega
      clear h0 h1
      go_enter Try.func24, Try.ntmps24
      go_wp2_with (first | (go_at_call 25; refine (HD.out _).mono ?_; rintro e w' ⟨rfl, rfl⟩))
      go_ret
      exact ⟨rfl, rfl⟩
theorem refIs_any (c : Cf) (s : Int) (w : World) : Calls Try.prog 21 #[(.agg #[.int .i64 c.size, .int .i64 c.pages, .slice c.ca c.cn c.cc, .slice c.ka c.kn c.kc, .int .i64 c.step, .int .i64 c.slots, .int .i64 c.gens, .int .i64 c.most]), .int .i64 s] w (BB (isT c s) w) := by
  by_cases h1 : 1 ≤ s
  · have d1 : decide (1 ≤ s) = true := decide_eq_true h1
    by_cases h2 : s ≤ c.most
    · have d2 : decide (s ≤ c.most) = true := decide_eq_true h2
      rw [isT_true.2 ⟨h1, h2⟩]
      go_enter Try.func21, Try.ntmps21
      go_wp2
      go_ret
      exact ⟨rfl, below1 _ _⟩
    · have d2 : decide (s ≤ c.most) = false := decide_eq_false h2
      have e : isT c s = false := by simp [isT, h2]
      rw [e]
      go_enter Try.func21, Try.ntmps21
      go_wp2
      go_ret
      exact ⟨rfl, below1 _ _⟩
  · have d1 : decide (1 ≤ s) = false := decide_eq_false h1
    have e : isT c s = false := by simp [isT, h1]
    rw [e]
    go_enter Try.func21, Try.ntmps21
    go_wp2
    go_ret
    exact ⟨rfl, below1 _ _⟩
end Go.Proofs.Ytpdhlnkdjcghpaa
