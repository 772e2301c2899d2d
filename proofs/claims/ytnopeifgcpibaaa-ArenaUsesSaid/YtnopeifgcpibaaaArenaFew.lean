/-
  The document's own 'Few' (almeryref06): where it says yes, there are 20 uses at most.
-/
import Derived.Test.YtnopeifgcpibaaaArenaOut
namespace Go.Proofs.Ytnopeifgcpibaaa
open Go.ChangeShapes Go.WideShapes Go.ChangeAt Go.RowKit

/-- How 'Few' ends: yes or no; yes only of 20 at most. -/
def FewEnds (n : Nat) (w : World) (e : Ending) (w' : World) : Prop := ∃ f : Bool, e = .returned (.bool f) ∧ w = w' ∧ (f = true → n ≤ 20)
theorem few_any (a : Option Addr) (n c : Nat) (us : List Us) (B : Nat) (w : World) (h : Uses w B a n us) (_hnc : n ≤ c) :
    Calls Try.prog 9 #[.slice a n c] w (FewEnds n w) := by
  have hmax := h.max
  have H := Lib.hid h
  clear h
  go_enter Try.func9, Try.ntmps9
  go_wp2
  go_loop [3] (fun i => ∃ k : Nat, k ≤ 21 ∧ i = .int .i64 k) (fun i => 21 - (intOf i).toNat)
  case atStart => exact ⟨0, by omega, rfl⟩
  case round =>
    obtain ⟨k, hk, rfl⟩ := hrel
    by_cases h1 : k < n
    · have d1 : decide ((k : Int) < (n : Int)) = true := by simp; omega
      by_cases h2 : k < 21
      · have d2 : decide ((k : Int) < 21) = true := by simp; omega
        obtain ⟨b, o, rfl, hb, hc⟩ := H.out.head (by omega)
        have hu : us[k]? = some (us[k]'(by rw [H.out.len]; exact h1)) := List.getElem?_eq_getElem _
        generalize us[k]'(by rw [H.out.len]; exact h1) = u at hu
        have hok := H.out.ok k u hu
        have hm := hok.bytes.max
        have h5 : w.cell? ⟨b, o + k * 6 + 5, none⟩ = some (.slice u.ba u.bn u.bc) := hc k u hu 5 _ rfl
        clear hc hu hok
        by_cases h3 : 200 < u.bn
        · have d3 : decide ((200 : Int) < (u.bn : Int)) = true := by simp; omega
          go_wp2
          go_ret
          exact ⟨false, rfl, rfl, fun h => by cases h⟩
        · have d3 : decide ((200 : Int) < (u.bn : Int)) = false := by simp; omega
          go_wp2
          go_round
          case rel => exact ⟨k + 1, by omega, by go_num⟩
          case measure => simp [intOf]; omega
      · have d2 : decide ((k : Int) < 21) = false := by simp; omega
        have d4 : decide ((n : Int) ≤ 20) = false := by simp; omega
        go_wp2
        go_ret
        exact ⟨false, rfl, rfl, fun h => by cases h⟩
    · have d1 : decide ((k : Int) < (n : Int)) = false := by simp; omega
      by_cases h4 : n ≤ 20
      · have d4 : decide ((n : Int) ≤ 20) = true := by simp; omega
        go_wp2
        go_ret
        exact ⟨true, rfl, rfl, fun _ => h4⟩
      · have d4 : decide ((n : Int) ≤ 20) = false := by simp; omega
        go_wp2
        go_ret
        exact ⟨false, rfl, rfl, fun h => by cases h⟩
end Go.Proofs.Ytnopeifgcpibaaa
