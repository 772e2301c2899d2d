/-
  The small functions of package conf (within, sizeMay, keepMay, Large, classesOf and its closure), each met by a contract: they return the plain answers, and lay at most new blocks.
-/
import Derived.Test.YtkdnbaafdhicjaaConfNum
namespace Go.Proofs.Ytkdnbaafdhicjaa
open Go.ChangeShapes Go.WideShapes Go.ChangeAt Go.RowKit

theorem within_any (n lo hi : Int) (w : World) : Calls Try.prog 20 #[.int .i64 n, .int .i64 lo, .int .i64 hi] w (B1 (inB n lo hi) w) := by
  by_cases h1 : n < lo
  · rw [inB_low h1]
    go_enter Try.func20, Try.ntmps20
    go_wp2
    go_ret
    exact ⟨rfl, rfl⟩
  · by_cases h2 : hi < n
    · rw [inB_high h2]
      have hd : decide (n ≤ hi) = false := by simpa using h2
      go_enter Try.func20, Try.ntmps20
      go_wp2
      go_ret
      exact ⟨rfl, rfl⟩
    · rw [inB_true.2 ⟨by omega, by omega⟩]
      have hd : decide (n ≤ hi) = true := by simpa using h2
      go_enter Try.func20, Try.ntmps20
      go_wp2
      go_ret
      exact ⟨rfl, rfl⟩

theorem sizeMay_any (s : Int) (w : World) : Calls Try.prog 19 #[.int .i64 s] w (B1 (sizeB s) w) := by
  have HW := within_any s 64 4096 w
  cases h1 : inB s 64 4096 with
  | false =>
    rw [h1] at HW
    have e : sizeB s = false := by simp [sizeB, h1]
    rw [e]
    have H := Lib.hid HW
    clear HW h1 e
    go_enter Try.func19, Try.ntmps19
    go_wp2_with fail
    refine H.out.mono ?_
    rintro e w' ⟨rfl, rfl⟩
    go_wp2
    go_ret
    exact ⟨rfl, rfl⟩
  | true =>
    rw [h1] at HW
    obtain ⟨b1, b2⟩ := inB_true.1 h1
    have e : sizeB s = (s % 8 == 0) := by simp [sizeB, h1]
    rw [e]
    have H := Lib.hid HW
    clear HW h1 e
    go_enter Try.func19, Try.ntmps19
    go_wp2_with fail
    refine H.out.mono ?_
    rintro e w' ⟨rfl, rfl⟩
    go_wp2
    go_ret
    exact ⟨rfl, rfl⟩

theorem keepMay_any (a : Option Addr) (n c : Nat) (ks : List Int) (m : Nat) (B : Nat) (w : World) (h : Ints w B a n ks) :
    Calls Try.prog 22 #[.slice a n c, .int .i64 m] w (B1 (keepB ks m) w) := by
  have hmax := h.max
  have hlen := h.len
  by_cases hnm : n = m
  · have HL := Lib.hid (hlen.trans hnm)
    have HN := Lib.hid hlen
    clear hlen
    have hz : ((n : Int) != (m : Int)) = false := by simp [hnm]
    have HE := Lib.hid hnm
    clear hnm
    go_enter Try.func22, Try.ntmps22
    go_wp2
    go_loop [13] (fun i => ∃ k : Nat, k ≤ n ∧ i = .int .i64 k ∧ KeptTo ks k) (fun i => n - (intOf i).toNat)
    case atStart => exact ⟨0, Nat.zero_le _, rfl, KeptTo.zero _⟩
    case round =>
      obtain ⟨k, hk, rfl, hl⟩ := hrel
      by_cases hlt : k < n
      · obtain ⟨s, hs, s1, s2⟩ := h.at_ hlt
        obtain ⟨b, o, rfl, hb, hc⟩ := h.head (by omega)
        have hcell := hc k s hs
        have HS := Lib.hid hs
        have HW := within_any s 0 1024 w
        clear hc hs
        cases hi : inB s 0 1024 with
        | false =>
          have HF := Lib.hid (keepB_bad (n := m) HS.out hi)
          rw [hi] at HW
          have H := Lib.hid HW
          clear HW hi
          go_wp2_with fail
          refine H.out.mono ?_
          rintro e w' ⟨rfl, rfl⟩
          go_wp2
          go_ret
          rw [HF.out]
          exact ⟨rfl, rfl⟩
        | true =>
          have HX := hl.next HS.out hi
          rw [hi] at HW
          have H := Lib.hid HW
          clear HW hi
          go_wp2_with fail
          refine H.out.mono ?_
          rintro e w' ⟨rfl, rfl⟩
          go_wp2
          go_round
          case rel => exact ⟨k + 1, by omega, by go_num, HX⟩
          case measure => simp [intOf]; omega
      · have e : k = m := by have := HE.out; omega
        have HF := Lib.hid (keepB_done HL.out (by rw [← e]; exact hl))
        clear e
        go_wp2
        go_ret
        rw [HF.out]
        exact ⟨rfl, rfl⟩
  · rw [keepB_len (by omega)]
    have hz : ((n : Int) != (m : Int)) = true := by simp; omega
    clear hlen hnm
    go_enter Try.func22, Try.ntmps22
    go_wp2
    go_ret
    exact ⟨rfl, rfl⟩

/-- It returns the int P, and boxes the layout. -/
def IBox (P : Int) (c : Cf) (w : World) (e : Ending) (w' : World) : Prop :=
  e = .returned (.int .i64 P) ∧ w' = w.alloc (.cells #[.int .i64 c.size, .int .i64 c.pages, .slice c.ca c.cn c.cc, .slice c.ka c.kn c.kc, .int .i64 c.step, .int .i64 c.slots, .int .i64 c.gens, .int .i64 c.most] 24)

theorem large_any (c : Cf) (w : World) :
    Calls Try.prog 16 #[(.agg #[.int .i64 c.size, .int .i64 c.pages, .slice c.ca c.cn c.cc, .slice c.ka c.kn c.kc, .int .i64 c.step, .int .i64 c.slots, .int .i64 c.gens, .int .i64 c.most])] w (IBox (large c.size) c w) := by
  cases h : sizeB c.size with
  | false =>
    rw [large_off h]
    go_enter Try.func16, Try.ntmps16
    go_wp2_with fail
    have HS := sizeMay_any c.size (w.alloc (.cells #[.int .i64 c.size, .int .i64 c.pages, .slice c.ca c.cn c.cc, .slice c.ka c.kn c.kc, .int .i64 c.step, .int .i64 c.slots, .int .i64 c.gens, .int .i64 c.most] 24))
    rw [h] at HS
    refine HS.mono ?_
    clear HS h
    rintro e w' ⟨rfl, rfl⟩
    go_wp2
    go_ret
    exact ⟨rfl, rfl⟩
  | true =>
    rw [large_on h]
    obtain ⟨s1, s2, _⟩ := sizeB_true.1 h
    obtain ⟨q1, q2⟩ := square_bounds s1 s2
    go_enter Try.func16, Try.ntmps16
    go_wp2_with fail
    have HS := sizeMay_any c.size (w.alloc (.cells #[.int .i64 c.size, .int .i64 c.pages, .slice c.ca c.cn c.cc, .slice c.ka c.kn c.kc, .int .i64 c.step, .int .i64 c.slots, .int .i64 c.gens, .int .i64 c.most] 24))
    rw [h] at HS
    refine HS.mono ?_
    clear HS h
    rintro e w' ⟨rfl, rfl⟩
    go_wp2
    go_ret
    exact ⟨rfl, rfl⟩
end Go.Proofs.Ytkdnbaafdhicjaa
