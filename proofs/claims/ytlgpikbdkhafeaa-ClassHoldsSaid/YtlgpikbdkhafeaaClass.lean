/-
  Pick, Waste and May of package class, and the document's own answers for them (package almeryref02), each met by a contract: whatever slice of ints and whatever number come in, they return the plain numbers 'pick', 'waste', 'may', and leave the memory alone.
-/
import Derived.Test.YtlgpikbdkhafeaaClassNum
import Derived.Deep.QuietTactic
import Derived.BigQuiet
namespace Go.Proofs.Ytlgpikbdkhafeaa
open Go.ChangeShapes Go.WideShapes Go.ChangeAt Go.RowKit

/-- It returns the int P, and the world is as it was. -/
def R1 (P : Int) (w : World) (e : Ending) (w' : World) : Prop := e = .returned (.int .i64 P) ∧ w = w'
/-- It returns the int P, and draws alone. -/
def RQ (P : Int) (w : World) (e : Ending) (w' : World) : Prop := e = .returned (.int .i64 P) ∧ ∃ n, w' = w.drewN n

theorem pick_any (a : Option Addr) (n c : Nat) (xs : List Int) (m : Int) (B : Nat) (w : World) (h : Ints w B a n xs) :
    Calls Try.prog 11 #[.slice a n c, .int .i64 m] w (R1 (pick xs m) w) := by
  have hmax := h.max
  by_cases hm : m < 1
  · rw [pick_off hm]
    go_enter Try.func11, Try.ntmps11
    go_wp2
    go_ret
    exact ⟨rfl, rfl⟩
  · go_enter Try.func11, Try.ntmps11
    go_wp2
    go_loop [11] (fun i => ∃ k : Nat, k ≤ n ∧ i = .int .i64 k ∧ Less xs m k) (fun i => n - (intOf i).toNat)
    case atStart => exact ⟨0, Nat.zero_le _, rfl, Less.zero _ _⟩
    case round =>
      obtain ⟨k, hk, rfl, hl⟩ := hrel
      by_cases hlt : k < n
      · obtain ⟨s, hs, s1, s2⟩ := h.at_ hlt
        obtain ⟨b, o, rfl, hb, hc⟩ := h.head (by omega)
        have hcell := hc k s hs
        have HS := Lib.hid hs
        clear hc hs
        by_cases hms : m ≤ s
        · have HF := Lib.hid (pick_hit (by omega) HS.out hl hms)
          go_wp2
          go_ret
          rw [HF.out]
          exact ⟨rfl, rfl⟩
        · have hsm : s < m := by omega
          have HN := hl.next HS.out hsm
          go_wp2
          go_round
          case rel => exact ⟨k + 1, by omega, by go_num, HN⟩
          case measure => simp [intOf]; omega
      · have HF := Lib.hid (pick_none (xs := xs) (m := m) (by rw [h.len]; have e : n = k := by omega
                                                              rw [e]; exact hl))
        go_wp2
        go_ret
        rw [HF.out]
        exact ⟨rfl, rfl⟩

theorem refPick_any (a : Option Addr) (n c : Nat) (xs : List Int) (m : Int) (B : Nat) (w : World) (h : Ints w B a n xs) :
    Calls Try.prog 12 #[.slice a n c, .int .i64 m] w (R1 (pick xs m) w) := by
  have hmax := h.max
  by_cases hm : m < 1
  · rw [pick_off hm]
    have hd : decide (1 ≤ m) = false := by simp; omega
    go_enter Try.func12, Try.ntmps12
    go_wp2
    go_loop [5] (fun i => ∃ k : Nat, k ≤ n ∧ i = .int .i64 k) (fun i => n - (intOf i).toNat)
    case atStart => exact ⟨0, Nat.zero_le _, rfl⟩
    case round =>
      obtain ⟨k, hk, rfl⟩ := hrel
      by_cases hlt : k < n
      · go_wp2
        go_round
        case rel => exact ⟨k + 1, by omega, by go_num⟩
        case measure => simp [intOf]; omega
      · go_wp2
        go_ret
        exact ⟨rfl, rfl⟩
  · have hd : decide (1 ≤ m) = true := by simp; omega
    go_enter Try.func12, Try.ntmps12
    go_wp2
    go_loop [5] (fun i => ∃ k : Nat, k ≤ n ∧ i = .int .i64 k ∧ Less xs m k) (fun i => n - (intOf i).toNat)
    case atStart => exact ⟨0, Nat.zero_le _, rfl, Less.zero _ _⟩
    case round =>
      obtain ⟨k, hk, rfl, hl⟩ := hrel
      by_cases hlt : k < n
      · obtain ⟨s, hs, s1, s2⟩ := h.at_ hlt
        obtain ⟨b, o, rfl, hb, hc⟩ := h.head (by omega)
        have hcell := hc k s hs
        have HS := Lib.hid hs
        clear hc hs
        by_cases hms : m ≤ s
        · have HF := Lib.hid (pick_hit (by omega) HS.out hl hms)
          go_wp2
          go_ret
          rw [HF.out]
          exact ⟨rfl, rfl⟩
        · have hsm : s < m := by omega
          have HN := hl.next HS.out hsm
          go_wp2
          go_round
          case rel => exact ⟨k + 1, by omega, by go_num, HN⟩
          case measure => simp [intOf]; omega
      · have HF := Lib.hid (pick_none (xs := xs) (m := m) (by rw [h.len]; have e : n = k := by omega
                                                              rw [e]; exact hl))
        go_wp2
        go_ret
        rw [HF.out]
        exact ⟨rfl, rfl⟩

theorem waste_any (a : Option Addr) (n c : Nat) (xs : List Int) (m : Int) (B : Nat) (w : World) (h : Ints w B a n xs) :
    Calls Try.prog 13 #[.slice a n c, .int .i64 m] w (R1 (waste xs m) w) := by
  have HP := pick_any a n c xs m B w h
  have hmax := h.max
  have hway : pick xs m = -1 ∨ ∃ (k : Nat) (s : Int), 1 ≤ m ∧ k < n ∧ pick xs m = (k : Int) ∧ xs[k]? = some s ∧ m ≤ s := by
    have hl := h.len
    rcases pick_ways xs m with ⟨_, g⟩ | ⟨_, g, _⟩ | ⟨k, s, h1, h2, h3, h4, h5, _⟩
    · exact .inl g
    · exact .inl g
    · exact .inr ⟨k, s, h1, by omega, h3, h4, h5⟩
  rcases hway with g | ⟨k, s, h1, h2, h3, h4, h5⟩
  · rw [waste_off g]
    rw [g] at HP
    have H := Lib.hid HP
    clear HP g
    go_enter Try.func13, Try.ntmps13
    go_wp2_with fail
    refine H.out.mono ?_
    rintro e w' ⟨rfl, rfl⟩
    go_wp2
    go_ret
    exact ⟨rfl, rfl⟩
  · rw [waste_hit h3 h4]
    rw [h3] at HP
    have H := Lib.hid HP
    obtain ⟨s1, s2⟩ := h.fit h4
    obtain ⟨b, o, rfl, hb, hc⟩ := h.head (by omega)
    have hcell := hc k s h4
    clear HP hc h4 h3
    go_enter Try.func13, Try.ntmps13
    go_wp2_with fail
    refine H.out.mono ?_
    rintro e w' ⟨rfl, rfl⟩
    go_wp2
    go_ret
    exact ⟨rfl, rfl⟩

theorem refWaste_any (a : Option Addr) (n c : Nat) (xs : List Int) (m : Int) (B : Nat) (w : World) (h : Ints w B a n xs) :
    Calls Try.prog 14 #[.slice a n c, .int .i64 m] w (R1 (waste xs m) w) := by
  have HP := refPick_any a n c xs m B w h
  have hmax := h.max
  have hway : pick xs m = -1 ∨ ∃ (k : Nat) (s : Int), 1 ≤ m ∧ k < n ∧ pick xs m = (k : Int) ∧ xs[k]? = some s ∧ m ≤ s := by
    have hl := h.len
    rcases pick_ways xs m with ⟨_, g⟩ | ⟨_, g, _⟩ | ⟨k, s, h1, h2, h3, h4, h5, _⟩
    · exact .inl g
    · exact .inl g
    · exact .inr ⟨k, s, h1, by omega, h3, h4, h5⟩
  rcases hway with g | ⟨k, s, h1, h2, h3, h4, h5⟩
  · rw [waste_off g]
    rw [g] at HP
    have H := Lib.hid HP
    clear HP g
    go_enter Try.func14, Try.ntmps14
    go_wp2_with fail
    refine H.out.mono ?_
    rintro e w' ⟨rfl, rfl⟩
    go_wp2
    go_ret
    exact ⟨rfl, rfl⟩
  · rw [waste_hit h3 h4]
    rw [h3] at HP
    have H := Lib.hid HP
    obtain ⟨s1, s2⟩ := h.fit h4
    obtain ⟨b, o, rfl, hb, hc⟩ := h.head (by omega)
    have hcell := hc k s h4
    clear HP hc h4 h3
    go_enter Try.func14, Try.ntmps14
    go_wp2_with fail
    refine H.out.mono ?_
    rintro e w' ⟨rfl, rfl⟩
    go_wp2
    go_ret
    exact ⟨rfl, rfl⟩
end Go.Proofs.Ytlgpikbdkhafeaa
