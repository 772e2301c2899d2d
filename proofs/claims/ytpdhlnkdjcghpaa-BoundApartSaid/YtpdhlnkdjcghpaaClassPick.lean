/-
  Pick of package class, and the document's own answer for it (almeryref02.Pick), each met by a contract: whatever slice of ints and whatever number come in, they return the plain number 'pick', and leave the memory alone.
-/
import Derived.Test.YtpdhlnkdjcghpaaClassNum
import Derived.Test.YtpdhlnkdjcghpaaFresh
import Derived.Deep.QuietTactic
import Derived.BigQuiet
namespace Go.Proofs.Ytpdhlnkdjcghpaa
open Go.ChangeShapes Go.WideShapes Go.ChangeAt Go.RowKit

theorem pick_any (a : Option Addr) (n c : Nat) (xs : List Int) (m : Int) (B : Nat) (w : World) (h : Ints w B a n xs) :
    Calls Try.prog 28 #[.slice a n c, .int .i64 m] w (R1 (pick xs m) w) := by
  have hmax := h.max
  by_cases hm : m < 1
  · rw [pick_off hm]
    go_enter Try.func28, Try.ntmps28
    go_wp2
    go_ret
    exact ⟨rfl, rfl⟩
  · go_enter Try.func28, Try.ntmps28
    go_wp2
    go_loop [11] (fun i => ∃ k : Nat, k ≤ n ∧ i = .int .i64 k ∧ Less xs m k) (fun i => n - (intOf i).toNat)
    case atStart => exact ⟨0, Nat.zero_le _, rfl, Less.zero _ _⟩
    case round =>
      obtain ⟨k, hk, rfl, hl⟩ := hrel
      by_cases hlt : k < n
      · obtain ⟨s, hs, s1, s2⟩ := h.at_ hlt
        obtain ⟨b, o, rfl, hb, hc⟩ := h.head (by omega)
        have hcell := hc k s hs
        have HS := Lib.hid hs
        clear hc hs
        by_cases hms : m ≤ s
        · have HF := Lib.hid (pick_hit (by omega) HS.out hl hms)
          go_wp2
          go_ret
          rw [HF.out]
          exact ⟨rfl, rfl⟩
        · have hsm : s < m := by omega
          have HN := hl.next HS.out hsm
          go_wp2
          go_round
          case rel => exact ⟨k + 1, by omega, by go_num, HN⟩
          case measure => simp [intOf]; omega
      · have HF := Lib.hid (pick_none (xs := xs) (m := m) (by rw [h.len]; have e : n = k := by omega
                                                              rw [e]; exact hl))
        go_wp2
        go_ret
        rw [HF.out]
        exact ⟨rfl, rfl⟩

theorem refPick_any (a : Option Addr) (n c : Nat) (xs : List Int) (m : Int) (B : Nat) (w : World) (h : Ints w B a n xs) :
    Calls Try.prog 31 #[.slice a n c, .int .i64 m] w (R1 (pick xs m) w) := by
  have hmax := h.max
  by_cases hm : m < 1
  · rw [pick_off hm]
    have hd : decide (1 ≤ m) = false := by simp; omega
    go_enter Try.func31, Try.ntmps31
    go_wp2
    go_loop [5] (fun i => ∃ k : Nat, k ≤ n ∧ i = .int .i64 k) (fun i => n - (intOf i).toNat)
    case atStart => exact ⟨0, Nat.zero_le _, rfl⟩
    case round =>
      obtain ⟨k, hk, rfl⟩ := hrel
      by_cases hlt : k < n
      · go_wp2
        go_round
        case rel => exact ⟨k + 1, by omega, by go_num⟩
        case measure => simp [intOf]; omega
      · go_wp2
        go_ret
        exact ⟨rfl, rfl⟩
  · have hd : decide (1 ≤ m) = true := by simp; omega
    go_enter Try.func31, Try.ntmps31
    go_wp2
    go_loop [5] (fun i => ∃ k : Nat, k ≤ n ∧ i = .int .i64 k ∧ Less xs m k) (fun i => n - (intOf i).toNat)
    case atStart => exact ⟨0, Nat.zero_le _, rfl, Less.zero _ _⟩
    case round =>
      obtain ⟨k, hk, rfl, hl⟩ := hrel
      by_cases hlt : k < n
      · obtain ⟨s, hs, s1, s2⟩ := h.at_ hlt
        obtain ⟨b, o, rfl, hb, hc⟩ := h.head (by omega)
        have hcell := hc k s hs
        have HS := Lib.hid hs
        clear hc hs
        by_cases hms : m ≤ s
        · have HF := Lib.hid (pick_hit (by omega) HS.out hl hms)
          go_wp2
          go_ret
          rw [HF.out]
          exact ⟨rfl, rfl⟩
        · have hsm : s < m := by omega
          have HN := hl.next HS.out hsm
          go_wp2
          go_round
          case rel => exact ⟨k + 1, by omega, by go_num, HN⟩
          case measure => simp [intOf]; omega
      · have HF := Lib.hid (pick_none (xs := xs) (m := m) (by rw [h.len]; have e : n = k := by omega
                                                              rw [e]; exact hl))
        go_wp2
        go_ret
        rw [HF.out]
        exact ⟨rfl, rfl⟩
end Go.Proofs.Ytpdhlnkdjcghpaa
