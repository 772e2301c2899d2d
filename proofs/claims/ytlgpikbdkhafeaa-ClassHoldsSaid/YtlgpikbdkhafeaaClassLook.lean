/-
  Look of package class and the document's own Look, Same and Table (package almeryref02), each met by a contract.
-/
import Derived.Test.YtlgpikbdkhafeaaClassTab
import Derived.Test.YtlgpikbdkhafeaaUnitRefMany
import Derived.Deep.AppendLies
import Derived.OwnWalk
namespace Go.Proofs.Ytlgpikbdkhafeaa
open Go.ChangeShapes Go.WideShapes Go.ChangeAt Go.RowKit

theorem many_pos8 {n : Int} (h : 1 ≤ n) : ∃ k : Nat, many n 8 = (k : Int) := Int.eq_ofNat_of_zero_le (by have := many_facts (n := n) (b := 8) h (by omega); omega)

theorem look_any (a : Option Addr) (n c : Nat) (ts : List Int) (m : Int) (w : World) (h : Ints w w.heap.size a n ts) (hm : m ≤ 9223372036854775807) :
    Calls Try.prog 18 #[.slice a n c, .int .i64 m] w (F2 (look ts m) w) := by
  have hmax := h.max
  by_cases h1 : m < 1
  · rw [look_off h1]
    go_enter Try.func18, Try.ntmps18
    go_wp2
    go_ret
    exact ⟨rfl, Fresh.refl _⟩
  · obtain ⟨k, hk⟩ := many_pos8 (n := m) (by omega)
    have HM := Lib.hid (many_any m 8 w hm)
    rw [hk] at HM
    by_cases hkn : n ≤ k
    · rw [look_far (by rw [h.len, hk]; omega)]
      clear hk
      go_enter Try.func18, Try.ntmps18
      go_wp2_with fail
      refine HM.out.mono ?_
      rintro e w1 ⟨rfl, f1⟩
      go_wp2
      go_ret
      exact ⟨rfl, f1⟩
    · obtain ⟨s, hs, s1, s2⟩ := h.at_ (k := k) (by omega)
      rw [look_at (by omega) hk hs]
      obtain ⟨b, o, rfl, hb, hc⟩ := h.head (by omega)
      have hcell := hc k s hs
      have hkn' : (k : Int) < (n : Int) := by omega
      clear hk hc hs
      go_enter Try.func18, Try.ntmps18
      go_wp2_with fail
      refine HM.out.mono ?_
      rintro e w1 ⟨rfl, f1⟩
      have hcell1 : w1.cell? ⟨b, o + k, none⟩ = some (.int .i64 s) := (f1.below.cell (p := ⟨b, o + k, none⟩) hb).trans hcell
      go_wp2
      go_ret
      exact ⟨rfl, f1⟩

theorem refLook_any (a : Option Addr) (n c : Nat) (ts : List Int) (m : Int) (w : World) (h : Ints w w.heap.size a n ts) (hm : m ≤ 9223372036854775807) :
    Calls Try.prog 19 #[.slice a n c, .int .i64 m] w (R1 (look ts m) w) := by
  have hmax := h.max
  have HM := Lib.hid (refMany_any m 8 w hm)
  by_cases h1 : m < 1
  · rw [look_off h1]
    have hd : decide (m < 1) = true := by simpa using h1
    go_enter Try.func19, Try.ntmps19
    go_wp2_with fail
    refine HM.out.mono ?_
    rintro e w1 ⟨rfl, rfl⟩
    go_wp2
    go_ret
    exact ⟨rfl, rfl⟩
  · obtain ⟨k, hk⟩ := many_pos8 (n := m) (by omega)
    have hd : decide (m < 1) = false := by simpa using h1
    rw [hk] at HM
    by_cases hkn : n ≤ k
    · rw [look_far (by rw [h.len, hk]; omega)]
      clear hk
      go_enter Try.func19, Try.ntmps19
      go_wp2_with fail
      refine HM.out.mono ?_
      rintro e w1 ⟨rfl, rfl⟩
      go_wp2
      go_ret
      exact ⟨rfl, rfl⟩
    · obtain ⟨s, hs, s1, s2⟩ := h.at_ (k := k) (by omega)
      rw [look_at (by omega) hk hs]
      obtain ⟨b, o, rfl, hb, hc⟩ := h.head (by omega)
      have hcell := hc k s hs
      have hkn' : (k : Int) < (n : Int) := by omega
      clear hk hc hs
      go_enter Try.func19, Try.ntmps19
      go_wp2_with fail
      refine HM.out.mono ?_
      rintro e w1 ⟨rfl, rfl⟩
      go_wp2
      go_ret
      exact ⟨rfl, rfl⟩

/-- It returns the bool P, and draws alone. -/
def BQ (P : Bool) (w : World) (e : Ending) (w' : World) : Prop := e = .returned (.bool P) ∧ ∃ n, w' = w.drewN n

/-- SAME of two slices that read alike. -/
theorem same_alike (a a' : Option Addr) (n c c' : Nat) (xs : List Int) (B : Nat) (w : World) (h : Ints w B a n xs) (h' : Ints w B a' n xs) :
    Calls Try.prog 16 #[.slice a n c, .slice a' n c'] w (BQ true w) := by
  have hmax := h.max
  have hne : ((n : Int) != (n : Int)) = false := by simp
  go_enter Try.func16, Try.ntmps16
  go_wp2
  go_loopw [5] (fun i wr => ∃ k : Nat, k ≤ n ∧ i = .int .i64 k ∧ ∃ d, wr = w.drewN d) (fun i _ => n - (intOf i).toNat)
  case atStart => exact ⟨0, Nat.zero_le _, rfl, 0, rfl⟩
  case round =>
    obtain ⟨k, hk, rfl, d, rfl⟩ := hrel
    by_cases hlt : k < n
    · obtain ⟨s, hs, s1, s2⟩ := h.at_ hlt
      obtain ⟨b, o, rfl, hb, hc⟩ := h.head (by omega)
      obtain ⟨b', o', rfl, hb', hc'⟩ := h'.head (by omega)
      have hcell := hc k s hs
      have hcell' := hc' k s hs
      have hlt' : (k : Int) < (n : Int) := by omega
      have hse : (s != s) = false := by simp
      clear hc hc' hs
      go_wp2
      go_quiet (fail)
      go_wp2
      go_roundw
      case rel => exact ⟨k + 1, by omega, by go_num, _, rfl⟩
      case measure => simp [intOf]; omega
    · go_wp2
      go_ret
      exact ⟨rfl, _, rfl⟩
end Go.Proofs.Ytlgpikbdkhafeaa
