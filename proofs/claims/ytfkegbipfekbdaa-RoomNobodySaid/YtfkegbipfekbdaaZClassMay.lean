import Derived.Test.YtfkegbipfekbdaaZChainNum
import Derived.Test.YtfkegbipfekbdaaZClassNum
import Derived.Test.YtfkegbipfekbdaaZPgBitsNum
import Derived.Deep.QuietTactic
import Derived.BigQuiet
import Derived.WalkMore
/-
  The function within of package conf, met by a contract; and a word for a call that boxes its layout.
-/
namespace Go.Proofs.Ytfkegbipfekbdaa
open Go.ChangeShapes Go.WideShapes Go.ChangeAt Go.RowKit

theorem within_any (n lo hi : Int) (w : World) : Calls Try.prog 48 #[.int .i64 n, .int .i64 lo, .int .i64 hi] w (B1 (inB n lo hi) w) := by
  by_cases h1 : n < lo
  · rw [inB_low h1]
    go_enter Try.func48, Try.ntmps48
    go_wp2
    go_ret
    exact ⟨rfl, rfl⟩
  · by_cases h2 : hi < n
    · rw [inB_high h2]
      have hd : decide (n ≤ hi) = false := by simpa using h2
      go_enter Try.func48, Try.ntmps48
      go_wp2
      go_ret
      exact ⟨rfl, rfl⟩
    · rw [inB_true.2 ⟨by omega, by omega⟩]
      have hd : decide (n ≤ hi) = true := by simpa using h2
      go_enter Try.func48, Try.ntmps48
      go_wp2
      go_ret
      exact ⟨rfl, rfl⟩

/-- It returns the int P, and boxes the layout. -/
def IBox (P : Int) (c : Cf) (w : World) (e : Ending) (w' : World) : Prop :=
  e = .returned (.int .i64 P) ∧ w' = w.alloc (.cells #[.int .i64 c.size, .int .i64 c.pages, .slice c.ca c.cn c.cc, .slice c.ka c.kn c.kc, .int .i64 c.step, .int .i64 c.slots, .int .i64 c.gens, .int .i64 c.most] 24)
end Go.Proofs.Ytfkegbipfekbdaa
/-
  The small functions of package conf (sizeMay, keepMay, Large), each met by a contract: they return the plain answers, and lay at most new blocks.
-/
namespace Go.Proofs.Ytfkegbipfekbdaa
open Go.ChangeShapes Go.WideShapes Go.ChangeAt Go.RowKit

theorem sizeMay_any (s : Int) (w : World) : Calls Try.prog 47 #[.int .i64 s] w (B1 (sizeB s) w) := by
  have HW := within_any s 64 4096 w
  cases h1 : inB s 64 4096 with
  | false =>
    rw [h1] at HW
    have e : sizeB s = false := by simp [sizeB, h1]
    rw [e]
    have H := Lib.hid HW
    clear HW h1 e
    go_enter Try.func47, Try.ntmps47
    go_wp2_with fail
    refine H.out.mono ?_
    rintro e w' ⟨rfl, rfl⟩
    go_wp2
    go_ret
    exact ⟨rfl, rfl⟩
  | true =>
    rw [h1] at HW
    obtain ⟨b1, b2⟩ := inB_true.1 h1
    have e : sizeB s = (s % 8 == 0) := by simp [sizeB, h1]
    rw [e]
    have H := Lib.hid HW
    clear HW h1 e
    go_enter Try.func47, Try.ntmps47
    go_wp2_with fail
    refine H.out.mono ?_
    rintro e w' ⟨rfl, rfl⟩
    go_wp2
    go_ret
    exact ⟨rfl, rfl⟩

theorem keepMay_any (a : Option Addr) (n c : Nat) (ks : List Int) (m : Nat) (B : Nat) (w : World) (h : Ints w B a n ks) :
    Calls Try.prog 50 #[.slice a n c, .int .i64 m] w (B1 (keepB ks m) w) := by
  have hmax := h.max
  have hlen := h.len
  by_cases hnm : n = m
  · have HL := Lib.hid (hlen.trans hnm)
    have HN := Lib.hid hlen
    clear hlen
    have hz : ((n : Int) != (m : Int)) = false := by simp [hnm]
    have HE := Lib.hid hnm
    clear hnm
    go_enter Try.func50, Try.ntmps50
    go_wp2
    go_loop [13] (fun i => ∃ k : Nat, k ≤ n ∧ i = .int .i64 k ∧ KeptTo ks k) (fun i => n - (intOf i).toNat)
    case atStart => exact ⟨0, Nat.zero_le _, rfl, KeptTo.zero _⟩
    case round =>
      obtain ⟨k, hk, rfl, hl⟩ := hrel
      by_cases hlt : k < n
      · obtain ⟨s, hs, s1, s2⟩ := h.at_ hlt
        obtain ⟨b, o, rfl, hb, hc⟩ := h.head (by omega)
        have hcell := hc k s hs
        have HS := Lib.hid hs
        have HW := within_any s 0 1024 w
        clear hc hs
        cases hi : inB s 0 1024 with
        | false =>
          have HF := Lib.hid (keepB_bad (n := m) HS.out hi)
          rw [hi] at HW
          have H := Lib.hid HW
          clear HW hi
          go_wp2_with fail
          refine H.out.mono ?_
          rintro e w' ⟨rfl, rfl⟩
          go_wp2
          go_ret
          rw [HF.out]
          exact ⟨rfl, rfl⟩
        | true =>
          have HX := hl.next HS.out hi
          rw [hi] at HW
          have H := Lib.hid HW
          clear HW hi
          go_wp2_with fail
          refine H.out.mono ?_
          rintro e w' ⟨rfl, rfl⟩
          go_wp2
          go_round
          case rel => exact ⟨k + 1, by omega, by go_num, HX⟩
          case measure => simp [intOf]; omega
      · have e : k = m := by have := HE.out; omega
        have HF := Lib.hid (keepB_done HL.out (by rw [← e]; exact hl))
        clear e
        go_wp2
        go_ret
        rw [HF.out]
        exact ⟨rfl, rfl⟩
  · rw [keepB_len (by omega)]
    have hz : ((n : Int) != (m : Int)) = true := by simp; omega
    clear hlen hnm
    go_enter Try.func50, Try.ntmps50
    go_wp2
    go_ret
    exact ⟨rfl, rfl⟩

theorem large_any (c : Cf) (w : World) :
    Calls Try.prog 51 #[(.agg #[.int .i64 c.size, .int .i64 c.pages, .slice c.ca c.cn c.cc, .slice c.ka c.kn c.kc, .int .i64 c.step, .int .i64 c.slots, .int .i64 c.gens, .int .i64 c.most])] w (IBox (large c.size) c w) := by
  cases h : sizeB c.size with
  | false =>
    rw [large_off h]
    go_enter Try.func51, Try.ntmps51
    go_wp2_with fail
    have HS := sizeMay_any c.size (w.alloc (.cells #[.int .i64 c.size, .int .i64 c.pages, .slice c.ca c.cn c.cc, .slice c.ka c.kn c.kc, .int .i64 c.step, .int .i64 c.slots, .int .i64 c.gens, .int .i64 c.most] 24))
    rw [h] at HS
    refine HS.mono ?_
    clear HS h
    rintro e w' ⟨rfl, rfl⟩
    go_wp2
    go_ret
    exact ⟨rfl, rfl⟩
  | true =>
    rw [large_on h]
    obtain ⟨s1, s2, _⟩ := sizeB_true.1 h
    obtain ⟨q1, q2⟩ := square_bounds s1 s2
    go_enter Try.func51, Try.ntmps51
    go_wp2_with fail
    have HS := sizeMay_any c.size (w.alloc (.cells #[.int .i64 c.size, .int .i64 c.pages, .slice c.ca c.cn c.cc, .slice c.ka c.kn c.kc, .int .i64 c.step, .int .i64 c.slots, .int .i64 c.gens, .int .i64 c.most] 24))
    rw [h] at HS
    refine HS.mono ?_
    clear HS h
    rintro e w' ⟨rfl, rfl⟩
    go_wp2
    go_ret
    exact ⟨rfl, rfl⟩
end Go.Proofs.Ytfkegbipfekbdaa
/-
  The document's own answer for class.May (almeryref02.May), met by a contract: whatever slice of ints and whatever number come in, it returns the plain number 'may', and changes no memory.
-/
namespace Go.Proofs.Ytfkegbipfekbdaa
open Go.ChangeShapes Go.WideShapes Go.ChangeAt Go.RowKit

/-- The document's own answer draws the order in which it reads: the world moves on by draws alone. -/
theorem refMay_any (a : Option Addr) (n c : Nat) (xs : List Int) (g : Int) (B : Nat) (w : World) (h : Ints w B a n xs) :
    Calls Try.prog 28 #[.slice a n c, .int .i64 g] w (RQ (may xs g) w) := by
  have hmax := h.max
  have hlen := h.len
  by_cases h0 : n = 0
  · rw [may_none (.inl (by omega))]
    clear hlen
    subst h0
    go_enter Try.func28, Try.ntmps28
    go_wp2
    go_ret
    exact ⟨rfl, 0, rfl⟩
  · have hz : ((n : Int) == 0) = false := by simp; omega
    by_cases h16 : 16 < n
    · rw [may_none (.inr (by omega))]
      clear hlen
      go_enter Try.func28, Try.ntmps28
      go_wp2
      go_ret
      exact ⟨rfl, 0, rfl⟩
    · have HL := Lib.hid hlen
      clear hlen
      obtain ⟨b, o, rfl, hb, hc⟩ := h.head (by omega)
      have HC := Lib.hid hc
      clear hc
      go_enter Try.func28, Try.ntmps28
      go_wp2
      go_loopw [5] (fun i wr => ∃ (k : Nat) (q : Int), k ≤ n ∧ i = .int .i64 k ∧ OkTo xs g k q ∧ ∃ d, wr = w.drewN d) (fun i _ => n - (intOf i).toNat)
      case atStart => exact ⟨0, 0, Nat.zero_le _, rfl, OkTo.zero _ _, 0, rfl⟩
      case round =>
        obtain ⟨k, q, hk, rfl, hl, d, rfl⟩ := hrel
        by_cases hlt : k < n
        · obtain ⟨s, hs, s1, s2⟩ := h.at_ hlt
          have hcell := HC.out k s hs
          have HS := Lib.hid hs
          have hlt' : (k : Int) < (n : Int) := by omega
          clear hs
          by_cases c1 : s < 8
          · have HF := Lib.hid (hl.bad HS.out (.inl c1))
            have d1 : decide (s < 8) = true := by simpa using c1
            go_wp2
            go_quiet (fail)
            go_wp2
            go_ret
            rw [HF.out]
            exact ⟨rfl, _, (by rw [World.drewN_drewN])⟩
          · have d1 : decide (s < 8) = false := by simpa using c1
            by_cases c2 : s % 8 = 0
            · have hq2 : (s % 8 != 0) = false := by simp [c2]
              have HC2 := Lib.hid c2
              clear c2
              by_cases c3 : g < s
              · have HF := Lib.hid (hl.bad HS.out (.inr (.inr (.inl c3))))
                have d3 : decide (g < s) = true := by simpa using c3
                go_wp2
                go_quiet (fail)
                go_wp2
                go_ret
                rw [HF.out]
                exact ⟨rfl, _, (by rw [World.drewN_drewN])⟩
              · have d3 : decide (g < s) = false := by simpa using c3
                by_cases k0 : k = 0
                · have e : q = 0 := by subst k0; exact hl.first
                  have HN := hl.next HS.out (by omega) HC2.out (by omega) (by omega)
                  have dk : decide ((0 : Int) < (k : Int)) = false := by simp; omega
                  have dk' : decide (0 < k) = false := by simp; omega
                  clear e k0
                  go_wp2
                  go_quiet (fail)
                  go_wp2
                  go_roundw
                  case rel => exact ⟨k + 1, s, by omega, by go_num, HN, _, rfl⟩
                  case measure => simp [intOf]; omega
                · obtain ⟨j, rfl⟩ : ∃ j, k = j + 1 := ⟨k - 1, by omega⟩
                  have hcp := HC.out j q (by simpa using hl.prev (by omega))
                  have hj : (0 : Int) < (j : Int) + 1 := by omega
                  have dj : decide ((0 : Int) < (j : Int) + 1) = true := by simp
                  have hj2 : (j : Int) < (n : Int) := by omega
                  by_cases c4 : s ≤ q
                  · have HF := Lib.hid (hl.bad HS.out (.inr (.inr (.inr c4))))
                    have d4 : decide (s ≤ q) = true := by simpa using c4
                    go_wp2
                    go_quiet (fail)
                    go_wp2
                    go_ret
                    rw [HF.out]
                    exact ⟨rfl, _, (by rw [World.drewN_drewN])⟩
                  · have HN := hl.next HS.out (by omega) HC2.out (by omega) (by omega)
                    have d4 : decide (s ≤ q) = false := by simpa using c4
                    go_wp2
                    go_quiet (fail)
                    go_wp2
                    go_roundw
                    case rel => exact ⟨j + 1 + 1, s, by omega, by go_num, HN, _, rfl⟩
                    case measure => simp [intOf]; omega
            · have hq2 : (s % 8 != 0) = true := by simp [c2]
              have HF := Lib.hid (hl.bad HS.out (.inr (.inl c2)))
              clear c2
              go_wp2
              go_quiet (fail)
              go_wp2
              go_ret
              rw [HF.out]
              exact ⟨rfl, _, (by rw [World.drewN_drewN])⟩
        · have HF := Lib.hid (hl.done (by rw [HL.out]; omega) (by rw [HL.out]; omega) (by rw [HL.out]; omega))
          go_wp2
          go_ret
          rw [HF.out]
          exact ⟨rfl, _, rfl⟩
end Go.Proofs.Ytfkegbipfekbdaa
/-
  May of package class, met by a contract: whatever slice of ints and whatever number come in, it returns the plain number 'may', and changes no memory.
-/
namespace Go.Proofs.Ytfkegbipfekbdaa
open Go.ChangeShapes Go.WideShapes Go.ChangeAt Go.RowKit

theorem may_any (a : Option Addr) (n c : Nat) (xs : List Int) (g : Int) (B : Nat) (w : World) (h : Ints w B a n xs) :
    Calls Try.prog 49 #[.slice a n c, .int .i64 g] w (R1 (may xs g) w) := by
  have hmax := h.max
  have hlen := h.len
  by_cases h0 : n = 0
  · rw [may_none (.inl (by omega))]
    clear hlen
    subst h0
    go_enter Try.func49, Try.ntmps49
    go_wp2
    go_step3
    go_wp2
    rw [Exit.noGoto_ret]
    go_ret
    exact ⟨rfl, rfl⟩
  · have hz : ((n : Int) == 0) = false := by simp; omega
    by_cases h16 : 16 < n
    · rw [may_none (.inr (by omega))]
      clear hlen
      go_enter Try.func49, Try.ntmps49
      go_wp2
      go_step3
      go_wp2
      rw [Exit.noGoto_ret]
      go_ret
      exact ⟨rfl, rfl⟩
    · have HL := Lib.hid hlen
      clear hlen
      obtain ⟨b, o, rfl, hb, hc⟩ := h.head (by omega)
      have HC := Lib.hid hc
      clear hc
      go_enter Try.func49, Try.ntmps49
      go_wp2
      go_step3
      go_wp2
      go_step3
      go_wp2
      go_loop [5, 6, 19] (fun t p i => ∃ (k : Nat) (q : Int), k ≤ n ∧ i = .int .i64 k ∧ t = .int .i64 0 ∧ p = .int .i64 q ∧ OkTo xs g k q) (fun _ _ i => n - (intOf i).toNat)
      case atStart => exact ⟨0, 0, Nat.zero_le _, rfl, rfl, rfl, OkTo.zero _ _⟩
      case round =>
        obtain ⟨k, q, hk, rfl, rfl, rfl, hl⟩ := hrel
        by_cases hlt : k < n
        · obtain ⟨s, hs, s1, s2⟩ := h.at_ hlt
          have hcell := HC.out k s hs
          have HS := Lib.hid hs
          clear hs
          by_cases c1 : s < 8
          · have HF := Lib.hid (hl.bad HS.out (.inl c1))
            go_wp2
            rw [HF.out]
            go_ret
            exact ⟨rfl, rfl⟩
          · by_cases c2 : s % 8 = 0
            · have hq2 : (s % 8 != 0) = false := by simp [c2]
              have HC2 := Lib.hid c2
              clear c2
              by_cases c3 : g < s
              · have HF := Lib.hid (hl.bad HS.out (.inr (.inr (.inl c3))))
                go_wp2
                rw [HF.out]
                go_ret
                exact ⟨rfl, rfl⟩
              · by_cases c4 : s ≤ q
                · have HF := Lib.hid (hl.bad HS.out (.inr (.inr (.inr c4))))
                  go_wp2
                  rw [HF.out]
                  go_ret
                  exact ⟨rfl, rfl⟩
                · have HN := hl.next HS.out (by omega) HC2.out (by omega) (by omega)
                  go_wp2
                  go_round
                  case rel => exact ⟨k + 1, s, by omega, by go_num, rfl, rfl, HN⟩
                  case measure => simp [intOf]; omega
            · have hq2 : (s % 8 != 0) = true := by simp [c2]
              have HF := Lib.hid (hl.bad HS.out (.inr (.inl c2)))
              clear c2
              go_wp2
              rw [HF.out]
              go_ret
              exact ⟨rfl, rfl⟩
        · have HF := Lib.hid (hl.done (by rw [HL.out]; omega) (by rw [HL.out]; omega) (by rw [HL.out]; omega))
          go_wp2
          rw [HF.out]
          go_ret
          exact ⟨rfl, rfl⟩
end Go.Proofs.Ytfkegbipfekbdaa
