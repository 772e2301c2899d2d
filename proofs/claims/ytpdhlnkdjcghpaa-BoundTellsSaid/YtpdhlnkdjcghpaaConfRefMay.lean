/-
  The document's own May of chapter 3 (almeryref03.May), met by a contract: of whatever layout comes in, it returns the plain answer 'confMay', and leaves all memory that was there as it was.
-/
import Derived.Test.YtpdhlnkdjcghpaaConfRefOne
import Derived.Test.YtpdhlnkdjcghpaaClassRefMay
import Derived.Deep.RegionHeld3
namespace Go.Proofs.Ytpdhlnkdjcghpaa
open Go.ChangeShapes Go.WideShapes Go.ChangeAt Go.RowKit

set_option maxRecDepth 100000 in
set_option maxHeartbeats 3200000 in
theorem refConfMay_any (c : Cf) (w : World) (hc : c.Ok w w.heap.size) :
    Calls Try.prog 6 #[(.agg #[.int .i64 c.size, .int .i64 c.pages, .slice c.ca c.cn c.cc, .slice c.ka c.kn c.kc, .int .i64 c.step, .int .i64 c.slots, .int .i64 c.gens, .int .i64 c.most])] w (IB (confMay c) w) := by
  have HC := hc.classes
  have HK := hc.keep
  have HKL := Lib.hid hc.keep.len
  have hmaxC := hc.classes.max
  have hmaxK := hc.keep.max
  have HL := refLarge_any c (w.alloc (.cells #[.int .i64 c.size, .int .i64 c.pages, .slice c.ca c.cn c.cc, .slice c.ka c.kn c.kc, .int .i64 c.step, .int .i64 c.slots, .int .i64 c.gens, .int .i64 c.most] 24))
  obtain ⟨l1, l2⟩ := large_bounds c.size
  clear hc
  cases hs : sizeB c.size with
  | false =>
    have HF := Lib.hid (confMay_off (c := c) (by simp [confB, hs]))
    rw [large_off hs] at HL
    have H := Lib.hid HL
    clear HL hs
    go_enter Try.func6, Try.ntmps6
    go_wp2_with fail
    refine H.out.mono ?_
    rintro e w' ⟨rfl, rfl⟩
    go_wp2
    go_ret
    rw [HF.out]
    exact ⟨rfl, below2 _ _ _⟩
  | true =>
    have hlz : (large c.size == 0) = false := by have := large_pos hs; simp; omega
    have H := Lib.hid HL
    have HS := Lib.hid hs
    clear HL hs
    by_cases p1 : c.pages < 1
    · have HF := Lib.hid (confMay_off (c := c) (by simp [confB, inB_low p1]))
      go_enter Try.func6, Try.ntmps6
      go_wp2_with fail
      refine H.out.mono ?_
      rintro e w' ⟨rfl, rfl⟩
      go_wp2
      go_ret
      rw [HF.out]
      exact ⟨rfl, below2 _ _ _⟩
    · by_cases p2 : 1024 < c.pages
      · have HF := Lib.hid (confMay_off (c := c) (by simp [confB, inB_high p2]))
        go_enter Try.func6, Try.ntmps6
        go_wp2_with fail
        refine H.out.mono ?_
        rintro e w' ⟨rfl, rfl⟩
        go_wp2
        go_ret
        rw [HF.out]
        exact ⟨rfl, below2 _ _ _⟩
      · have HP := Lib.hid (inB_true.2 (⟨by omega, by omega⟩ : 1 ≤ c.pages ∧ c.pages ≤ 1024))
        have HM := refMay_any c.ca c.cn c.cc c.xs c.size w.heap.size ((w.alloc (.cells #[.int .i64 c.size, .int .i64 c.pages, .slice c.ca c.cn c.cc, .slice c.ka c.kn c.kc, .int .i64 c.step, .int .i64 c.slots, .int .i64 c.gens, .int .i64 c.most] 24)).alloc (.cells #[.int .i64 c.size, .int .i64 c.pages, .slice c.ca c.cn c.cc, .slice c.ka c.kn c.kc, .int .i64 c.step, .int .i64 c.slots, .int .i64 c.gens, .int .i64 c.most] 24)) ((HC.alloc (Nat.le_refl _) _).alloc (by simp) _)
        cases hm : mayB c.xs c.size with
        | false =>
          have HF := Lib.hid (confMay_off (c := c) (by simp [confB, hm]))
          rw [show may c.xs c.size = 1 by simp [may, hm]] at HM
          have HM2 := Lib.hid HM
          clear HM hm
          go_enter Try.func6, Try.ntmps6
          go_wp2_with fail
          refine H.out.mono ?_
          rintro e w' ⟨rfl, rfl⟩
          go_wp2_with fail
          refine HM2.out.mono ?_
          rintro e w' ⟨rfl, d, rfl⟩
          go_wp2
          go_ret
          rw [HF.out]
          exact ⟨rfl, belowN (below2 _ _ _) _⟩
        | true =>
          rw [show may c.xs c.size = 0 by simp [may, hm]] at HM
          have HM1 := Lib.hid hm
          have HM2 := Lib.hid HM
          clear HM hm
          by_cases hn : c.kn = c.cn
          · have hnb : ((c.kn : Int) != (c.cn : Int)) = false := by simp [hn]
            have HN := Lib.hid hn
            have HMA : Hid (∀ W : World, Ints W w.heap.size c.ca c.cn c.xs → Calls Try.prog 18 #[.slice c.ca c.cn c.cc, .int .i64 c.size] W (RQ 0 W)) := Lib.hid (fun W hW => by
              have := refMay_any c.ca c.cn c.cc c.xs c.size w.heap.size W hW
              rw [show may c.xs c.size = 0 by simp [may, HM1.out]] at this
              exact this)
            have HLA := Lib.hid (fun W => refLarge_any c W)
            have dp1 : decide (c.pages < 1) = false := by simpa using p1
            have dp2 : decide (1024 < c.pages) = false := by simpa using p2
            clear hn HM2 H
            generalize hka : c.ka = ka at *
            have HKA := Lib.hid hka
            clear hka
            go_enter Try.func6, Try.ntmps6
            go_wp2_with fail
            refine (HLA.out _).mono ?_
            rintro e w' ⟨rfl, rfl⟩
            go_wp2_with fail
            refine (HMA.out _ (by exact (HC.alloc (Nat.le_refl _) _).alloc (by simp) _)).mono ?_
            rintro e w1 ⟨rfl, d, hw1⟩
            have hb : Below w.heap.size w w1 := by rw [hw1]; exact belowN (below2 _ _ _) _
            have e0 : w1.cell? ⟨w.heap.size, 0, none⟩ = some (.int .i64 c.size) := by rw [hw1]; go_simp
            have e1 : w1.cell? ⟨w.heap.size, 1, none⟩ = some (.int .i64 c.pages) := by rw [hw1]; go_simp
            have e2 : w1.cell? ⟨w.heap.size, 2, none⟩ = some (.slice c.ca c.cn c.cc) := by rw [hw1]; go_simp
            have e3 : w1.cell? ⟨w.heap.size, 3, none⟩ = some (.slice ka c.kn c.kc) := by rw [hw1]; go_simp
            have e4 : w1.cell? ⟨w.heap.size, 4, none⟩ = some (.int .i64 c.step) := by rw [hw1]; go_simp
            have e5 : w1.cell? ⟨w.heap.size, 5, none⟩ = some (.int .i64 c.slots) := by rw [hw1]; go_simp
            have e6 : w1.cell? ⟨w.heap.size, 6, none⟩ = some (.int .i64 c.gens) := by rw [hw1]; go_simp
            have e7 : w1.cell? ⟨w.heap.size, 7, none⟩ = some (.int .i64 c.most) := by rw [hw1]; go_simp
            clear hw1 HMA HC
            have HK1 := HK.below hb
            clear HK
            go_wp2
            go_loop [3] (fun i => ∃ k : Nat, k ≤ c.kn ∧ i = .int .i64 k ∧ KeptTo c.ks k) (fun i => c.kn - (intOf i).toNat)
            case atStart => exact ⟨0, Nat.zero_le _, rfl, KeptTo.zero _⟩
            case round =>
              obtain ⟨k, hk, rfl, hl⟩ := hrel
              by_cases hlt : k < c.kn
              · obtain ⟨s, hs, s1, s2⟩ := HK1.at_ hlt
                obtain ⟨b, o, rfl, hbk, hcc⟩ := HK1.head (by omega)
                have hcell := hcc k s hs
                have hlt' : (k : Int) < (c.kn : Int) := by omega
                have HSK := Lib.hid hs
                clear hcc hs HKA
                by_cases v1 : s < 0
                · have HF := Lib.hid (confMay_off (c := c) (by rw [confB, keepB_bad HSK.out (inB_low v1)]; simp))
                  go_wp2
                  go_ret
                  rw [HF.out]
                  exact ⟨rfl, hb⟩
                · by_cases v2 : 1024 < s
                  · have HF := Lib.hid (confMay_off (c := c) (by rw [confB, keepB_bad HSK.out (inB_high v2)]; simp))
                    go_wp2
                    go_ret
                    rw [HF.out]
                    exact ⟨rfl, hb⟩
                  · have HX := hl.next HSK.out (inB_true.2 ⟨by omega, by omega⟩)
                    go_wp2
                    go_round
                    case rel => exact ⟨k + 1, by omega, by go_num, HX⟩
                    case measure => simp [intOf]; omega
              · have HKB := Lib.hid (keepB_done (ks := c.ks) (n := c.cn) (by rw [HKL.out, HN.out]) (by
                  have ek : k = c.cn := by have := HN.out; omega
                  rw [← ek]; exact hl))
                clear hl
                by_cases q1 : c.step < 1
                · have HF := Lib.hid (confMay_off (c := c) (by simp [confB, inB_low q1]))
                  have d1 : decide (c.step < 1) = true := by simpa using q1
                  go_wp2
                  go_quiet (fail)
                  go_wp2
                  go_ret
                  rw [HF.out]
                  exact ⟨rfl, belowN hb _⟩
                have d1 : decide (c.step < 1) = false := by simpa using q1
                by_cases q2 : 65536 < c.step
                · have HF := Lib.hid (confMay_off (c := c) (by simp [confB, inB_high q2]))
                  have d2 : decide (65536 < c.step) = true := by simpa using q2
                  go_wp2
                  go_quiet (fail)
                  go_wp2
                  go_ret
                  rw [HF.out]
                  exact ⟨rfl, belowN hb _⟩
                have d2 : decide (65536 < c.step) = false := by simpa using q2
                by_cases q3 : c.slots < 1
                · have HF := Lib.hid (confMay_off (c := c) (by simp [confB, inB_low q3]))
                  have d3 : decide (c.slots < 1) = true := by simpa using q3
                  go_wp2
                  go_quiet (fail)
                  go_wp2
                  go_ret
                  rw [HF.out]
                  exact ⟨rfl, belowN hb _⟩
                have d3 : decide (c.slots < 1) = false := by simpa using q3
                by_cases q4 : 4096 < c.slots
                · have HF := Lib.hid (confMay_off (c := c) (by simp [confB, inB_high q4]))
                  have d4 : decide (4096 < c.slots) = true := by simpa using q4
                  go_wp2
                  go_quiet (fail)
                  go_wp2
                  go_ret
                  rw [HF.out]
                  exact ⟨rfl, belowN hb _⟩
                have d4 : decide (4096 < c.slots) = false := by simpa using q4
                by_cases q5 : c.gens < 1
                · have HF := Lib.hid (confMay_off (c := c) (by simp [confB, inB_low q5]))
                  have d5 : decide (c.gens < 1) = true := by simpa using q5
                  go_wp2
                  go_quiet (fail)
                  go_wp2
                  go_ret
                  rw [HF.out]
                  exact ⟨rfl, belowN hb _⟩
                have d5 : decide (c.gens < 1) = false := by simpa using q5
                by_cases q6 : 1023 < c.gens
                · have HF := Lib.hid (confMay_off (c := c) (by simp [confB, inB_high q6]))
                  have d6 : decide (1023 < c.gens) = true := by simpa using q6
                  go_wp2
                  go_quiet (fail)
                  go_wp2
                  go_ret
                  rw [HF.out]
                  exact ⟨rfl, belowN hb _⟩
                have d6 : decide (1023 < c.gens) = false := by simpa using q6
                by_cases q7 : c.most < 1
                · have HF := Lib.hid (confMay_off (c := c) (by simp [confB, inB_low q7]))
                  have d7 : decide (c.most < 1) = true := by simpa using q7
                  go_wp2
                  go_quiet (fail)
                  go_wp2
                  go_ret
                  rw [HF.out]
                  exact ⟨rfl, belowN hb _⟩
                have d7 : decide (c.most < 1) = false := by simpa using q7
                have HV : Hid (confB c = !decide (large c.size < c.most)) := Lib.hid (by
                  rw [confB, HS.out, HP.out, HM1.out, HKB.out, inB_true.2 (⟨by omega, by omega⟩ : 1 ≤ c.step ∧ c.step ≤ 65536), inB_true.2 (⟨by omega, by omega⟩ : 1 ≤ c.slots ∧ c.slots ≤ 4096), inB_true.2 (⟨by omega, by omega⟩ : 1 ≤ c.gens ∧ c.gens ≤ 1023), inB_not (show 1 ≤ c.most by omega)]
                  rfl)
                go_wp2
                go_region_held3 (fun w' => w'.cell? ⟨w.heap.size, 0, none⟩ = some (.int .i64 c.size) ∧ w'.cell? ⟨w.heap.size, 1, none⟩ = some (.int .i64 c.pages) ∧
                    w'.cell? ⟨w.heap.size, 2, none⟩ = some (.slice c.ca c.cn c.cc) ∧ w'.cell? ⟨w.heap.size, 3, none⟩ = some (.slice ka c.kn c.kc) ∧
                    w'.cell? ⟨w.heap.size, 4, none⟩ = some (.int .i64 c.step) ∧ w'.cell? ⟨w.heap.size, 5, none⟩ = some (.int .i64 c.slots) ∧
                    w'.cell? ⟨w.heap.size, 6, none⟩ = some (.int .i64 c.gens) ∧ w'.cell? ⟨w.heap.size, 7, none⟩ = some (.int .i64 c.most))
                  (go_keep)
                  (first
                    | (go_at_call 17; refine (HLA.out _).mono ?_; rintro e w' ⟨rfl, rfl⟩))
                cases hv : decide (large c.size < c.most) with
                | true =>
                  have HF := Lib.hid (confMay_off (c := c) (by rw [HV.out, hv]; rfl))
                  go_wp2
                  go_ret
                  rw [HF.out]
                  exact ⟨rfl, belowD (hb.alloc hb.size _)⟩
                | false =>
                  have HF := Lib.hid (confMay_on (c := c) (by rw [HV.out, hv]; rfl))
                  go_wp2
                  go_ret
                  rw [HF.out]
                  exact ⟨rfl, belowD (hb.alloc hb.size _)⟩
          · have HF := Lib.hid (confMay_off (c := c) (by rw [confB, keepB_len (by rw [HKL.out]; exact hn)]; simp))
            have hnb : ((c.kn : Int) != (c.cn : Int)) = true := by simp; omega
            clear hn
            go_enter Try.func6, Try.ntmps6
            go_wp2_with fail
            refine H.out.mono ?_
            rintro e w' ⟨rfl, rfl⟩
            go_wp2_with fail
            refine HM2.out.mono ?_
            rintro e w' ⟨rfl, d, rfl⟩
            go_wp2
            go_ret
            rw [HF.out]
            exact ⟨rfl, belowN (below2 _ _ _) _⟩
end Go.Proofs.Ytpdhlnkdjcghpaa
