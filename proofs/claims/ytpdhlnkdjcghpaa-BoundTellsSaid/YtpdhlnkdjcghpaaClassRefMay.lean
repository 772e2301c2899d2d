/-
  The document's own answer for class.May (almeryref02.May), met by a contract: whatever slice of ints and whatever number come in, it returns the plain number 'may', and changes no memory.
-/
import Derived.Test.YtpdhlnkdjcghpaaClassNum
import Derived.Test.YtpdhlnkdjcghpaaFresh
import Derived.Deep.QuietTactic
import Derived.BigQuiet
import Derived.WalkMore
namespace Go.Proofs.Ytpdhlnkdjcghpaa
open Go.ChangeShapes Go.WideShapes Go.ChangeAt Go.RowKit

/-- The document's own answer draws the order in which it reads: the world moves on by draws alone. -/
theorem refMay_any (a : Option Addr) (n c : Nat) (xs : List Int) (g : Int) (B : Nat) (w : World) (h : Ints w B a n xs) :
    Calls Try.prog 18 #[.slice a n c, .int .i64 g] w (RQ (may xs g) w) := by
  have hmax := h.max
  have hlen := h.len
  by_cases h0 : n = 0
  · rw [may_none (.inl (by omega))]
    clear hlen
    subst h0
    go_enter Try.func18, Try.ntmps18
    go_wp2
    go_ret
    exact ⟨rfl, 0, rfl⟩
  · have hz : ((n : Int) == 0) = false := by simp; omega
    by_cases h16 : 16 < n
    · rw [may_none (.inr (by omega))]
      clear hlen
      go_enter Try.func18, Try.ntmps18
      go_wp2
      go_ret
      exact ⟨rfl, 0, rfl⟩
    · have HL := Lib.hid hlen
      clear hlen
      obtain ⟨b, o, rfl, hb, hc⟩ := h.head (by omega)
      have HC := Lib.hid hc
      clear hc
      go_enter Try.func18, Try.ntmps18
      go_wp2
      go_loopw [5] (fun i wr => ∃ (k : Nat) (q : Int), k ≤ n ∧ i = .int .i64 k ∧ OkTo xs g k q ∧ ∃ d, wr = w.drewN d) (fun i _ => n - (intOf i).toNat)
      case atStart => exact ⟨0, 0, Nat.zero_le _, rfl, OkTo.zero _ _, 0, rfl⟩
      case round =>
        obtain ⟨k, q, hk, rfl, hl, d, rfl⟩ := hrel
        by_cases hlt : k < n
        · obtain ⟨s, hs, s1, s2⟩ := h.at_ hlt
          have hcell := HC.out k s hs
          have HS := Lib.hid hs
          have hlt' : (k : Int) < (n : Int) := by omega
          clear hs
          by_cases c1 : s < 8
          · have HF := Lib.hid (hl.bad HS.out (.inl c1))
            have d1 : decide (s < 8) = true := by simpa using c1
            go_wp2
            go_quiet (fail)
            go_wp2
            go_ret
            rw [HF.out]
            exact ⟨rfl, _, (by rw [World.drewN_drewN])⟩
          · have d1 : decide (s < 8) = false := by simpa using c1
            by_cases c2 : s % 8 = 0
            · have hq2 : (s % 8 != 0) = false := by simp [c2]
              have HC2 := Lib.hid c2
              clear c2
              by_cases c3 : g < s
              · have HF := Lib.hid (hl.bad HS.out (.inr (.inr (.inl c3))))
                have d3 : decide (g < s) = true := by simpa using c3
                go_wp2
                go_quiet (fail)
                go_wp2
                go_ret
                rw [HF.out]
                exact ⟨rfl, _, (by rw [World.drewN_drewN])⟩
              · have d3 : decide (g < s) = false := by simpa using c3
                by_cases k0 : k = 0
                · have e : q = 0 := by subst k0; exact hl.first
                  have HN := hl.next HS.out (by omega) HC2.out (by omega) (by omega)
                  have dk : decide ((0 : Int) < (k : Int)) = false := by simp; omega
                  have dk' : decide (0 < k) = false := by simp; omega
                  clear e k0
                  go_wp2
                  go_quiet (fail)
                  go_wp2
                  go_roundw
                  case rel => exact ⟨k + 1, s, by omega, by go_num, HN, _, rfl⟩
                  case measure => simp [intOf]; omega
                · obtain ⟨j, rfl⟩ : ∃ j, k = j + 1 := ⟨k - 1, by omega⟩
                  have hcp := HC.out j q (by simpa using hl.prev (by omega))
                  have hj : (0 : Int) < (j : Int) + 1 := by omega
                  have dj : decide ((0 : Int) < (j : Int) + 1) = true := by simp
                  have hj2 : (j : Int) < (n : Int) := by omega
                  by_cases c4 : s ≤ q
                  · have HF := Lib.hid (hl.bad HS.out (.inr (.inr (.inr c4))))
                    have d4 : decide (s ≤ q) = true := by simpa using c4
                    go_wp2
                    go_quiet (fail)
                    go_wp2
                    go_ret
                    rw [HF.out]
                    exact ⟨rfl, _, (by rw [World.drewN_drewN])⟩
                  · have HN := hl.next HS.out (by omega) HC2.out (by omega) (by omega)
                    have d4 : decide (s ≤ q) = false := by simpa using c4
                    go_wp2
                    go_quiet (fail)
                    go_wp2
                    go_roundw
                    case rel => exact ⟨j + 1 + 1, s, by omega, by go_num, HN, _, rfl⟩
                    case measure => simp [intOf]; omega
            · have hq2 : (s % 8 != 0) = true := by simp [c2]
              have HF := Lib.hid (hl.bad HS.out (.inr (.inl c2)))
              clear c2
              go_wp2
              go_quiet (fail)
              go_wp2
              go_ret
              rw [HF.out]
              exact ⟨rfl, _, (by rw [World.drewN_drewN])⟩
        · have HF := Lib.hid (hl.done (by rw [HL.out]; omega) (by rw [HL.out]; omega) (by rw [HL.out]; omega))
          go_wp2
          go_ret
          rw [HF.out]
          exact ⟨rfl, _, rfl⟩
end Go.Proofs.Ytpdhlnkdjcghpaa
