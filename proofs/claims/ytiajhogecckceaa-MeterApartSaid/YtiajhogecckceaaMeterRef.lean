/-
  The document's own answers for package meter (almeryref05), each met by a contract.
-/
import Derived.Test.YtiajhogecckceaaFresh
import Derived.Test.YtiajhogecckceaaMeterNum
namespace Go.Proofs.Ytiajhogecckceaa
open Go.ChangeShapes Go.WideShapes Go.ChangeAt Go.RowKit

theorem refAdd_any (t n : Int) (w : World) (h0 : 0 ≤ t) (h1 : t ≤ 4611686018427387904) (hn : n ≤ 9223372036854775807) :
    Calls Try.prog 16 #[.int .i64 t, .int .i64 n] w (R1 (more t n) w) := by
  have hw : IntKind.i64.wrap (4611686018427387904 - t) = 4611686018427387904 - t := IntWalk.i64_in _ (by omega)
  go_enter Try.func16, Try.ntmps16
  by_cases a : n < 1
  · have e : more t n = t := by unfold more; rw [if_pos a]
    rw [e]
    clear e
    go_wp2
    go_ret
    exact ⟨rfl, rfl⟩
  · by_cases b : 4611686018427387904 - t < n
    · have e : more t n = 4611686018427387904 := by unfold more; rw [if_neg a, if_pos b]
      rw [e]
      clear e
      go_wp2
      go_ret
      exact ⟨rfl, rfl⟩
    · have e : more t n = t + n := by unfold more; rw [if_neg a, if_neg b]
      rw [e]
      clear e
      have hs : IntKind.i64.wrap (t + n) = t + n := IntWalk.i64_in _ (by omega)
      go_wp2
      go_ret
      exact ⟨rfl, rfl⟩

theorem refSum_any (a : Option Addr) (n c : Nat) (xs : List Int) (B : Nat) (w : World) (h : Ints w B a n xs) :
    Calls Try.prog 12 #[.slice a n c] w (R1 (total 0 xs) w) := by
  have hmax := h.max
  have HL := Lib.hid h.len
  go_enter Try.func12, Try.ntmps12
  go_wp2
  go_loop [3, 4] (fun t i => ∃ k : Nat, k ≤ n ∧ i = .int .i64 k ∧ t = .int .i64 (total 0 (xs.take k))) (fun _ i => n - (intOf i).toNat)
  case atStart => exact ⟨0, Nat.zero_le _, rfl, rfl⟩
  case round =>
    obtain ⟨k, hk, rfl, rfl⟩ := hrel
    by_cases hlt : k < n
    · obtain ⟨x, hx, x1, x2⟩ := h.at_ hlt
      obtain ⟨b, o, rfl, hb, hc⟩ := h.head (by omega)
      have hcell := hc k x hx
      have ht := total_zero (xs.take k)
      have HA := refAdd_any (total 0 (xs.take k)) x w ht.1 ht.2 x2
      rw [← total_take 0 hx] at HA
      have HA := Lib.hid HA
      clear hc hx ht
      go_wp2_with fail
      refine HA.out.mono ?_
      rintro e w2 ⟨rfl, rfl⟩
      go_wp2
      go_round
      case rel => exact ⟨k + 1, by omega, by go_num, rfl⟩
      case measure => simp [intOf]; omega
    · have e : k = n := by omega
      have HU : Hid (total 0 (xs.take k) = total 0 xs) := Lib.hid (by rw [List.take_of_length_le (by rw [HL.out]; omega)])
      subst e
      go_wp2
      go_ret
      exact ⟨by rw [HU.out]; rfl, rfl⟩
end Go.Proofs.Ytiajhogecckceaa
