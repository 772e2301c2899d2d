/-
  MoveAlike: whatever bytes, three bytes and acts come in, the law returns true, and the input reads behind the call as it did.
-/
import Derived.Test.YtadljlkflmodiaaRows
import Derived.WalkKit
import Derived.ProofKit
import Derived.OpenShut
import Derived.Test.YtadljlkflmodiaaMoveAwake
import Derived.Test.YtadljlkflmodiaaMoveActDo
import Derived.Test.YtadljlkflmodiaaThree8
import Derived.ShutString
import Derived.ChangeOld
import Derived.Below
namespace Go.Proofs.Ytadljlkflmodiaa.moveAlike
open Go.ChangeShapes Go.WideShapes Go.ChangeAt Go.RowKit
open Go.ChangeMaps (open_string shut_string)
set_option linter.unusedVariables false

theorem own : ownKnob Try.prog.godebug = none := by kernel_rfl
theorem laidOut : laidOutB Try.prog = true := by kernel_rfl

/-! ### The walk -/
set_option maxRecDepth 20000 in
theorem walk (ab : Option Addr) (lb cb : Nat) (b : List Int) (n0 n1 n2 : Int) (al : Option Addr) (ll cl : Nat) (l : List Ac) (w : World) (hb : Bytes w w.heap.size ab lb b) (hcb : lb ≤ cb) (hn0 : 0 ≤ n0 ∧ n0 ≤ 255) (hn1 : 0 ≤ n1 ∧ n1 ≤ 255) (hn2 : 0 ≤ n2 ∧ n2 ≤ 255) (hl : Acts w w.heap.size al ll l) (hcl : ll ≤ cl) :
    Calls Try.prog 4 #[.slice ab lb cb, .agg #[.int .u8 n0, .int .u8 n1, .int .u8 n2], .slice al ll cl] w fun e w' => e = .returned (.bool true) ∧ Below w.heap.size w w' := by
  have hmax := hl.max
  have hbm := hb.max
  go_enter Try.func4, Try.ntmps4
  go_wp2_with fail
  refine (awake15_any _).mono ?_
  rintro e w0 ⟨rfl, h0⟩
  have H0 := Lib.hid (belowT (below1 w _) h0)
  have z0 : w0.cell? ⟨w.heap.size, 0, none⟩ = some (.int .u8 n0) := (h0.cell (p := ⟨w.heap.size, 0, none⟩) (by simp)).trans (by go_simp)
  have z1 : w0.cell? ⟨w.heap.size, 1, none⟩ = some (.int .u8 n1) := (h0.cell (p := ⟨w.heap.size, 1, none⟩) (by simp)).trans (by go_simp)
  have z2 : w0.cell? ⟨w.heap.size, 2, none⟩ = some (.int .u8 n2) := (h0.cell (p := ⟨w.heap.size, 2, none⟩) (by simp)).trans (by go_simp)
  clear h0
  by_cases h128 : lb = 128
  · subst h128
    go_wp2_with fail
    refine (few_any al ll cl l w.heap.size w0 (hl.below H0.out) hcl).mono ?_
    rintro e w00 ⟨ff, rfl, rfl, hf⟩
    cases ff with
    | false =>
      go_wp2
      go_ret
      exact ⟨rfl, H0.out⟩
    | true =>
      have hll : ll ≤ 20 := hf rfl
      clear hf
      obtain ⟨r, hr⟩ : ∃ r : Nat, n2 % 64 = (r : Int) := ⟨(n2 % 64).toNat, by omega⟩
      have hr2 : n2.tmod 64 = (r : Int) := by rw [Int.tmod_eq_emod_of_nonneg (by omega)]; exact hr
      obtain ⟨s, hs⟩ : ∃ s : Nat, s = 1 + r := ⟨_, rfl⟩
      have hsw : IntKind.i64.wrap (1 + (r : Int)) = (s : Int) := by rw [IntWalk.i64_in _ (by omega)]; omega
      obtain ⟨D, hD⟩ : ∃ D : Nat, D + s = 65 := ⟨65 - s, by omega⟩
      have hDw : IntKind.i64.wrap (65 - (s : Int)) = (D : Int) := by rw [IntWalk.i64_in _ (by omega)]; omega
      have hD0 : ¬ (D : Int) = 0 := by omega
      have hf0 := Int.emod_nonneg n0 hD0
      have hf1 := Int.emod_lt_of_pos n0 (show (0 : Int) < (D : Int) by omega)
      have hg0 := Int.emod_nonneg n1 hD0
      have hg1 := Int.emod_lt_of_pos n1 (show (0 : Int) < (D : Int) by omega)
      obtain ⟨f, hf⟩ : ∃ f : Nat, n0 % (D : Int) = (f : Int) := ⟨(n0 % (D : Int)).toNat, by omega⟩
      have hf2 : n0.tmod (D : Int) = (f : Int) := by rw [Int.tmod_eq_emod_of_nonneg (by omega)]; exact hf
      obtain ⟨f', hf'⟩ : ∃ f : Nat, n1 % (D : Int) = (f : Int) := ⟨(n1 % (D : Int)).toNat, by omega⟩
      have hf'2 : n1.tmod (D : Int) = (f' : Int) := by rw [Int.tmod_eq_emod_of_nonneg (by omega)]; exact hf'
      obtain ⟨t, ht⟩ : ∃ t : Nat, t = 64 + f' := ⟨_, rfl⟩
      have htw : IntKind.i64.wrap (64 + (f' : Int)) = (t : Int) := by rw [IntWalk.i64_in _ (by omega)]; omega
      have HF : Hid (1 ≤ s ∧ s ≤ 64 ∧ f + s ≤ 64 ∧ 64 ≤ t ∧ t + s ≤ 128) := Lib.hid (by omega)
      clear hs hD hf0 hf1 hg0 hg1 ht
      have HA : Hid (Calls Try.prog 11 #[.int .i64 2, .int .i64 64, .pointer none] w0 fun e w' => ∃ p b, e = .returned (.tuple #[.pointer (some ⟨p, 0, none⟩), .int .i64 0]) ∧ Ar w' p b none (List.replicate 128 0) 0 0 ∧ Below w0.heap.size w0 w' ∧ w0.heap.size ≤ p ∧ w0.heap.size ≤ b) :=
        Lib.hid (arenaNew_ok 2 64 none 0 0 w0 (by decide) (Mo.nobody _ _ _) (fun _ e => by cases e))
      go_wp2_with fail
      refine HA.out.mono ?_
      rintro e w1 ⟨p, q0, rfl, a1, b1, hp, hq0⟩
      have HQ0 := Lib.hid (Nat.le_trans H0.out.size hq0)
      have B1 := Lib.hid (belowT H0.out b1)
      have HW := Lib.hid (write_whole (n := 128) (c := cb) a1 (by simp) (hb.below B1.out) B1.out.size (fun _ e => by cases e))
      clear HA a1 b1 hp hq0 z0 z1 z2
      go_wp2_with fail
      refine HW.out.mono ?_
      rintro e w2 ⟨rfl, a2, b2⟩
      have B2 := Lib.hid (B1.out.trans (Ar.minB b2 B1.out.size HQ0.out))
      have HM := Lib.hid (moveNew_ok (a2.free 0 0) f t s (by
        have := HF.out
        rw [hb.len]
        exact ⟨by omega, ⟨by omega, by omega⟩, ⟨by omega, by omega⟩, Or.inl (by omega)⟩))
      have HBL := Lib.hid hb.len
      clear HW a2 b2
      go_wp2_with fail
      refine HM.out.mono ?_
      rintro e w3 ⟨q, rfl, m3, b3, hq⟩
      have B3 := Lib.hid (belowT B2.out b3)
      have HQ := Lib.hid (Nat.le_trans B2.out.size hq)
      have M3 := Lib.hid m3
      have HU := Lib.hid hl
      clear HM m3 b3 hq hb hl
      go_wp2
      go_loopw [15] (fun i wr => ∃ (k g : Nat) (xs : List Int), i = .int .i64 k ∧ k ≤ ll + 1 ∧ (k = ll + 1 → g = s) ∧ xs.length = 128 ∧ Alike xs f t g ∧ Mw wr q p q0 none xs 0 0 f t s g ∧ Below w.heap.size w wr) (fun i _ => ll + 1 - (intOf i).toNat)
      case atStart => exact ⟨0, 0, _, rfl, by omega, fun h => by omega, HBL.out, fun i hi => by omega, M3.out, B3.out⟩
      case round =>
        obtain ⟨k, g, xs, rfl, hk, hks, hxl, hxa, hm, hbel⟩ := hrel
        have M0 := Lib.hid hm
        have B0 := Lib.hid hbel
        have hgs := hm.mv.gs
        have hF := HF.out
        have hts := hm.ts
        have hfs := hm.fs
        clear hm hbel
        by_cases hle : k ≤ ll
        · have dk : decide ((k : Int) ≤ (ll : Int)) = true := by simp; omega
          have dkn : decide (k ≤ ll) = true := by simp; omega
          have hwk : IntKind.i64.wrap ((k : Int) + 1) = (k : Int) + 1 := IntWalk.i64_in _ (by omega)
          by_cases hlt : k < ll
          · have dl : decide ((k : Int) < (ll : Int)) = true := by simp; omega
            have dln : decide (k < ll) = true := by simp; omega
            have U1 := Lib.hid (HU.out.below B0.out)
            obtain ⟨b0, o0, rfl, hb0, hc0⟩ := U1.out.head (by omega)
            obtain ⟨u, hu, huk⟩ := U1.out.at_ hlt
            have y0 : wr.cell? ⟨b0, o0 + k * 4, none⟩ = some (.bool u.step) := hc0 k u hu 0 _ rfl
            have y1 : wr.cell? ⟨b0, o0 + k * 4 + 1, none⟩ = some (.int .i64 u.at_) := hc0 k u hu 1 _ rfl
            have y2 : wr.cell? ⟨b0, o0 + k * 4 + 2, none⟩ = some (.int .i64 u.n) := hc0 k u hu 2 _ rfl
            have y3 : wr.cell? ⟨b0, o0 + k * 4 + 3, none⟩ = some (.slice u.ba u.bn u.bc) := hc0 k u hu 3 _ rfl
            have HD : Hid (Calls Try.prog 17 #[.pointer (some ⟨p, 0, none⟩), .pointer (some ⟨q, 0, none⟩), .int .i64 (f : Int), .int .i64 (s : Int), .agg #[.bool u.step, .int .i64 u.at_, .int .i64 u.n, .slice u.ba u.bn u.bc]] wr fun e w' => ∃ (k' g' : Nat) (xs' : List Int), e = .returned (.int .i64 (k' : Int)) ∧ xs'.length = 128 ∧ Alike xs' f t g' ∧ (k + 1 = ll + 1 → g' = s) ∧ g' ≤ s ∧ Mw w' q p q0 none xs' 0 0 f t s g' ∧ Below w.heap.size w w') := Lib.hid (by
              refine (do_any M0.out u _ huk B0.out.size (fun _ e => by cases e)).mono ?_
              rintro e w' ⟨rfl, m', b'⟩
              have hfit := actOut_fit (u := u) huk.2.2.len hfs hts hgs
              exact ⟨_, _, _, rfl, by rw [hfit.1, hxl], actOut_alike huk.2.2.len hxa hfs hts (by omega) hgs, fun e => by omega, hfit.2.1, m'.free 0 0, B0.out.trans (Mw.minB b' B0.out.size HQ.out HQ0.out)⟩)
            clear hc0 hu huk hgs hts hfs hxl hxa hks hk
            go_wp2_with fail
            refine HD.out.mono ?_
            rintro e w4 ⟨k', g', xs', rfl, hxl, hxa, hks, hgs, m4, b4⟩
            have M4 := Lib.hid m4
            have B4 := Lib.hid b4
            clear m4 b4 HD y0 y1 y2 y3
            have hF2 := HF.out
            have hwg : IntKind.i64.wrap ((s : Int) - ((s : Int) - (g' : Int))) = (g' : Int) := by rw [IntWalk.i64_in _ (by omega)]; omega
            have hmx : max (g' : Int) 0 = (g' : Int) := by omega
            have HL : Hid (Calls Try.prog 19 #[.pointer (some ⟨q, 0, none⟩)] w4 fun e w' => e = .returned (.int .i64 ((s : Int) - (g' : Int))) ∧ Mw w' q p q0 none xs' 0 0 f t s g' ∧ Below w.heap.size w w') := Lib.hid (by
              refine (left_any M4.out.mv (by omega)).mono ?_
              rintro e w' ⟨rfl, d, rfl⟩
              exact ⟨rfl, M4.out.drewN d, belowN B4.out d⟩)
            have HR1 : Hid (∀ w5, Mw w5 q p q0 none xs' 0 0 f t s g' → Below w.heap.size w w5 → Calls Try.prog 21 #[.pointer (some ⟨p, 0, none⟩), .int .i64 (f : Int), .int .i64 (g' : Int)] w5 fun e w' => ∃ g1, e = .returned (.tuple #[.slice (some ⟨g1, 0, none⟩) g' g', .int .i64 0]) ∧ Row w' g1 (sub xs' f g') ∧ Mw w' q p q0 none xs' 0 0 f t s g' ∧ Below w.heap.size w w' ∧ g1 ≠ q0) := Lib.hid (by
              intro w5 m5 b5
              refine (mread_ok m5 f g' (by omega)).mono ?_
              rintro e w' ⟨g1, rfl, r', m', b', hg1⟩
              exact ⟨g1, rfl, r', m'.free 0 0, b5.trans (Ar.minB b' b5.size HQ0.out), by have := m5.ar.row.size; omega⟩)
            have HR2 : Hid (∀ w5 g1, Row w5 g1 (sub xs' f g') → g1 ≠ q0 → Mw w5 q p q0 none xs' 0 0 f t s g' → Below w.heap.size w w5 → Calls Try.prog 21 #[.pointer (some ⟨p, 0, none⟩), .int .i64 (t : Int), .int .i64 (g' : Int)] w5 fun e w' => ∃ g2, e = .returned (.tuple #[.slice (some ⟨g2, 0, none⟩) g' g', .int .i64 0]) ∧ Bytes w' w'.heap.size (some ⟨g1, 0, none⟩) g' (sub xs' f g') ∧ Bytes w' w'.heap.size (some ⟨g2, 0, none⟩) g' (sub xs' f g') ∧ Mw w' q p q0 none xs' 0 0 f t s g' ∧ Below w.heap.size w w') := Lib.hid (by
              intro w5 g1 r5 hne m5 b5
              refine (mread_ok m5 t g' (by omega)).mono ?_
              rintro e w' ⟨g2, rfl, r', m', b', hg2⟩
              rw [← hxa.sub] at r'
              have hl1 : (sub xs' f g').length = g' := length_sub _ _ _ (by omega)
              exact ⟨g2, rfl, (r5.but b' (fun e => by rcases e with e | e; exact hne e; cases e)).all hl1, r'.all hl1, m'.free 0 0, b5.trans (Ar.minB b' b5.size HQ0.out)⟩)
            have HX := Lib.hid (show xs'.length = 128 ∧ Alike xs' f t g' ∧ (k + 1 = ll + 1 → g' = s) from ⟨hxl, hxa, hks⟩)
            have HKL := Lib.hid hle
            clear hxl hxa hks hgs hF hF2
            go_wp2_with fail
            refine HL.out.mono ?_
            rintro e w5 ⟨rfl, m5, b5⟩
            have HR5 := Lib.hid (HR1.out _ m5 b5)
            clear m5 b5 HL HR1
            go_wp2_with fail
            refine HR5.out.mono ?_
            rintro e w6 ⟨g1, rfl, r6, m6, b6, hne⟩
            have HR6 := Lib.hid (HR2.out _ _ r6 hne m6 b6)
            clear r6 hne m6 b6 HR5 HR2
            go_wp2_with fail
            refine HR6.out.mono ?_
            rintro e w7 ⟨g2, rfl, y1, y2, m7, b7⟩
            have hs1 : (convert 22 9 (.slice (some ⟨g1, 0, none⟩) g' g')).run Try.prog w7 = .ok (.string (strOfNums (sub xs' f g'))) w7 := string_run y1
            have hs2 : (convert 22 9 (.slice (some ⟨g2, 0, none⟩) g' g')).run Try.prog w7 = .ok (.string (strOfNums (sub xs' f g'))) w7 := string_run y2
            generalize strOfNums (sub xs' f g') = Sg at hs1 hs2
            have M7 := Lib.hid m7
            have B7 := Lib.hid b7
            clear y1 y2 m7 b7 HR6
            go_wp2
            go_roundw
            case rel => exact ⟨k + 1, g', xs', by go_num, by have := HKL.out; omega, HX.out.2.2, HX.out.1, HX.out.2.1, M7.out, B7.out⟩
            case measure => have := HKL.out; simp [intOf]; omega
          · have dl : decide ((k : Int) < (ll : Int)) = false := by simp; omega
            have dln : decide (k < ll) = false := by simp; omega
            have HD : Hid (Calls Try.prog 22 #[.pointer (some ⟨q, 0, none⟩), .int .i64 (s : Int)] wr fun e w' => ∃ (k' g' : Nat) (xs' : List Int), e = .returned (.int .i64 (k' : Int)) ∧ xs'.length = 128 ∧ Alike xs' f t g' ∧ (k + 1 = ll + 1 → g' = s) ∧ g' ≤ s ∧ Mw w' q p q0 none xs' 0 0 f t s g' ∧ Below w.heap.size w w') := Lib.hid (by
              refine (step_any M0.out (s : Int)).mono ?_
              rintro e w' ⟨rfl, m', b'⟩
              have hgo : g + goes s g (s : Int) = s := by unfold goes; omega
              refine ⟨_, _, _, rfl, ?_, hxa.step hfs hts (by omega) (by omega), fun _ => hgo, by omega, m'.free 0 0, B0.out.trans (Mw.minB b' B0.out.size HQ.out HQ0.out)⟩
              rw [length_laid (by omega) (by omega), hxl])
            clear hgs hts hfs hxl hxa hks hk
            go_wp2_with fail
            refine HD.out.mono ?_
            rintro e w4 ⟨k', g', xs', rfl, hxl, hxa, hks, hgs, m4, b4⟩
            have M4 := Lib.hid m4
            have B4 := Lib.hid b4
            clear m4 b4 HD
            have hF2 := HF.out
            have hwg : IntKind.i64.wrap ((s : Int) - ((s : Int) - (g' : Int))) = (g' : Int) := by rw [IntWalk.i64_in _ (by omega)]; omega
            have hmx : max (g' : Int) 0 = (g' : Int) := by omega
            have HL : Hid (Calls Try.prog 19 #[.pointer (some ⟨q, 0, none⟩)] w4 fun e w' => e = .returned (.int .i64 ((s : Int) - (g' : Int))) ∧ Mw w' q p q0 none xs' 0 0 f t s g' ∧ Below w.heap.size w w') := Lib.hid (by
              refine (left_any M4.out.mv (by omega)).mono ?_
              rintro e w' ⟨rfl, d, rfl⟩
              exact ⟨rfl, M4.out.drewN d, belowN B4.out d⟩)
            have HR1 : Hid (∀ w5, Mw w5 q p q0 none xs' 0 0 f t s g' → Below w.heap.size w w5 → Calls Try.prog 21 #[.pointer (some ⟨p, 0, none⟩), .int .i64 (f : Int), .int .i64 (g' : Int)] w5 fun e w' => ∃ g1, e = .returned (.tuple #[.slice (some ⟨g1, 0, none⟩) g' g', .int .i64 0]) ∧ Row w' g1 (sub xs' f g') ∧ Mw w' q p q0 none xs' 0 0 f t s g' ∧ Below w.heap.size w w' ∧ g1 ≠ q0) := Lib.hid (by
              intro w5 m5 b5
              refine (mread_ok m5 f g' (by omega)).mono ?_
              rintro e w' ⟨g1, rfl, r', m', b', hg1⟩
              exact ⟨g1, rfl, r', m'.free 0 0, b5.trans (Ar.minB b' b5.size HQ0.out), by have := m5.ar.row.size; omega⟩)
            have HR2 : Hid (∀ w5 g1, Row w5 g1 (sub xs' f g') → g1 ≠ q0 → Mw w5 q p q0 none xs' 0 0 f t s g' → Below w.heap.size w w5 → Calls Try.prog 21 #[.pointer (some ⟨p, 0, none⟩), .int .i64 (t : Int), .int .i64 (g' : Int)] w5 fun e w' => ∃ g2, e = .returned (.tuple #[.slice (some ⟨g2, 0, none⟩) g' g', .int .i64 0]) ∧ Bytes w' w'.heap.size (some ⟨g1, 0, none⟩) g' (sub xs' f g') ∧ Bytes w' w'.heap.size (some ⟨g2, 0, none⟩) g' (sub xs' f g') ∧ Mw w' q p q0 none xs' 0 0 f t s g' ∧ Below w.heap.size w w') := Lib.hid (by
              intro w5 g1 r5 hne m5 b5
              refine (mread_ok m5 t g' (by omega)).mono ?_
              rintro e w' ⟨g2, rfl, r', m', b', hg2⟩
              rw [← hxa.sub] at r'
              have hl1 : (sub xs' f g').length = g' := length_sub _ _ _ (by omega)
              exact ⟨g2, rfl, (r5.but b' (fun e => by rcases e with e | e; exact hne e; cases e)).all hl1, r'.all hl1, m'.free 0 0, b5.trans (Ar.minB b' b5.size HQ0.out)⟩)
            have HX := Lib.hid (show xs'.length = 128 ∧ Alike xs' f t g' ∧ (k + 1 = ll + 1 → g' = s) from ⟨hxl, hxa, hks⟩)
            have HKL := Lib.hid hle
            clear hxl hxa hks hgs hF hF2
            go_wp2_with fail
            refine HL.out.mono ?_
            rintro e w5 ⟨rfl, m5, b5⟩
            have HR5 := Lib.hid (HR1.out _ m5 b5)
            clear m5 b5 HL HR1
            go_wp2_with fail
            refine HR5.out.mono ?_
            rintro e w6 ⟨g1, rfl, r6, m6, b6, hne⟩
            have HR6 := Lib.hid (HR2.out _ _ r6 hne m6 b6)
            clear r6 hne m6 b6 HR5 HR2
            go_wp2_with fail
            refine HR6.out.mono ?_
            rintro e w7 ⟨g2, rfl, y1, y2, m7, b7⟩
            have hs1 : (convert 22 9 (.slice (some ⟨g1, 0, none⟩) g' g')).run Try.prog w7 = .ok (.string (strOfNums (sub xs' f g'))) w7 := string_run y1
            have hs2 : (convert 22 9 (.slice (some ⟨g2, 0, none⟩) g' g')).run Try.prog w7 = .ok (.string (strOfNums (sub xs' f g'))) w7 := string_run y2
            generalize strOfNums (sub xs' f g') = Sg at hs1 hs2
            have M7 := Lib.hid m7
            have B7 := Lib.hid b7
            clear y1 y2 m7 b7 HR6
            go_wp2
            go_roundw
            case rel => exact ⟨k + 1, g', xs', by go_num, by have := HKL.out; omega, HX.out.2.2, HX.out.1, HX.out.2.1, M7.out, B7.out⟩
            case measure => have := HKL.out; simp [intOf]; omega
        · obtain rfl : g = s := hks (by omega)
          have dk : decide ((k : Int) ≤ (ll : Int)) = false := by simp; omega
          have dkn : decide (k ≤ ll) = false := by simp; omega
          have HL : Hid (Calls Try.prog 19 #[.pointer (some ⟨q, 0, none⟩)] wr fun e w' => e = .returned (.int .i64 0) ∧ Below w.heap.size w w') := Lib.hid (by
            refine (left_any M0.out.mv (by omega)).mono ?_
            rintro e w' ⟨rfl, d, rfl⟩
            exact ⟨by simp, belowN B0.out d⟩)
          clear hgs hts hfs hxl hxa hks hk hF hle
          go_wp2_with fail
          refine HL.out.mono ?_
          rintro e w4 ⟨rfl, b4⟩
          have B4 := Lib.hid b4
          clear b4 HL
          go_wp2
          go_ret
          exact ⟨rfl, B4.out⟩
  · have d128 : ((lb : Int) != 128) = true := by simp; omega
    go_wp2
    go_ret
    exact ⟨rfl, H0.out⟩

/-! ### The frame of the row -/
set_option maxRecDepth 100000 in
theorem lifted (os : Os) (started : os.Started) (H : Type) (enc : TypeId × Value → H) :
    ReturnsInHanded {} Try.checked os 4 .any (Rows.moveAlikeSpec.pre6 enc Try.prog Try.f4 Rows.moveAlikeRow.domain false) (Rows.moveAlikeSpec.post enc Try.prog Try.f4 false true false false) := by
  refine returnsInHanded_of_change (C := Try.checked) own started (by kernel_rfl) Try.func4
    (ChangeSpec.witness6 (enc := enc) (C := Try.checked) false ⟨#[], #[.slice none 0 0, .agg #[.int .u8 0, .int .u8 0, .int .u8 0], .slice none 0 0], []⟩ 8 (by kernel_rfl) (by kernel_rfl) (by kernel_rfl) (by kernel_rfl)) ?_
  intro W base args ds gs before hval0 hW hcnd _
  have hval : ∀ (j : Nat) t v, Try.f4.params[j]? = some t → args[j]? = some v → Value.okWide Try.prog W .any base t v := hval0
  have hW' := hW
  obtain ⟨p, q, hA0, hV, rfl, hfz, hnd⟩ := hW
  have hA : DataW.TrodAll enc Try.prog W 0 (fun _ => true) true Try.f4.params.toList args.toList ds p := hA0
  rw [Try.params4] at hA hval
  obtain ⟨v0, vs0, d0, ds0, p0, q0, hargs, rfl, rfl, h0, r0⟩ := trodAll_cons hA
  obtain ⟨v1, vs1, d1, ds1, p1, q1, rfl, rfl, rfl, h1, r1⟩ := trodAll_cons r0
  obtain ⟨v2, vs2, d2, ds2, p2, q2, rfl, rfl, rfl, h2, r2⟩ := trodAll_cons r1
  obtain ⟨rfl, rfl, rfl⟩ := trodAll_nil r2
  obtain rfl : args = #[v0, v1, v2] := by cases args; simp_all
  obtain ⟨rfl, rfl⟩ := trodVars_none hV
  have k0 := h0
  have lt0 : ∀ x ∈ p0, x.block < W.heap.size := by obtain ⟨m, hm⟩ := k0; exact DataW.trod_lt m _ _ _ hm
  obtain ⟨ab, lb, cb, rfl⟩ := okWide_slice Try.underlying22 (hval 0 22 v0 rfl rfl)
  obtain ⟨b, hcb, hb⟩ : ∃ xs, lb ≤ cb ∧ Bytes W W.heap.size ab lb xs := by
    obtain ⟨fuel, hf⟩ := h0
    obtain ⟨a, l, c, xs, e, hl, hi⟩ := bytes_field (by simpa [Value.cells] using hf)
    injection e with e1 e2 e3
    subst e1 e2 e3
    exact ⟨xs, hl, hi⟩
  have k1 := h1
  have lt1 : ∀ x ∈ p1, x.block < W.heap.size := by obtain ⟨m, hm⟩ := k1; exact DataW.trod_lt m _ _ _ hm
  obtain ⟨n0, n1, n2, rfl, hn0, hn1, hn2⟩ := open_three8 (hval 1 54 v1 rfl rfl) h1
  have k2 := h2
  have lt2 : ∀ x ∈ p2, x.block < W.heap.size := by obtain ⟨m, hm⟩ := k2; exact DataW.trod_lt m _ _ _ hm
  obtain ⟨al, ll, cl, rfl⟩ := okWide_slice Try.underlying24 (hval 2 24 v2 rfl rfl)
  obtain ⟨l, hcl, hl⟩ : ∃ xs, ll ≤ cl ∧ Acts W W.heap.size al ll xs := by
    obtain ⟨fuel, hf⟩ := h2
    obtain ⟨a, l, c, xs, e, hl, hi⟩ := acts_field (by simpa [Value.cells] using hf)
    injection e with e1 e2 e3
    subst e1 e2 e3
    exact ⟨xs, hl, hi⟩
  clear hA0 hval0
  refine (walk ab lb cb b n0 n1 n2 al ll cl l W hb hcb hn0 hn1 hn2 hl hcl).mono fun e W' ⟨he, bel⟩ => ?_
  subst he
  exact ⟨_, rfl, _, _, _, [], _, [], hW', trodAll_mk1 (shut_bool Try.underlying4 _), (trodAll_cons_mk (Below.trod laidOut (by kernel_rfl) (of_decide_eq_true (by kernel_rfl)) k0 bel lt0) (trodAll_cons_mk (Below.trod laidOut (by kernel_rfl) (of_decide_eq_true (by kernel_rfl)) k1 bel lt1) (trodAll_cons_mk (Below.trod laidOut (by kernel_rfl) (of_decide_eq_true (by kernel_rfl)) k2 bel lt2) trodAll_mk0))), rfl, bel.frame _, fun h => by cases h⟩

theorem over : Rows.moveAlikeRow.holds Try.pinned (OpenSpec.ofChange Rows.moveAlikeSpec) :=
  OpenClaim.holds_of_wide 4 Try.f4 rfl rfl rfl rfl rfl rfl rfl ⟨rfl, rfl, rfl, rfl, rfl⟩ rfl rfl rfl rfl rfl (by kernel_rfl) Try.func4 (by kernel_rfl)
    (of_decide_eq_true (by kernel_rfl)) (by unfold Func.isWrapper; first | (rw [if_pos (by decide +kernel)]; kernel_rfl) | (rw [if_neg (by decide +kernel)]; exact ⟨rfl, rfl⟩))
    (fun os started H enc _ => lifted os started H enc)

theorem proved : Rows.MoveAlikeSaid := over
#print axioms proved
end Go.Proofs.Ytadljlkflmodiaa.moveAlike
