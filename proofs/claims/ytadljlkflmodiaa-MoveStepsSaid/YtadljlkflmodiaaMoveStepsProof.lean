/-
  MoveSteps: whatever two bytes come in, the law returns true, and the input reads behind the call as it did.
-/
import Derived.Test.YtadljlkflmodiaaRows
import Derived.WalkKit
import Derived.ProofKit
import Derived.OpenShut
import Derived.Test.YtadljlkflmodiaaMoveAwake
import Derived.Test.YtadljlkflmodiaaWf
import Derived.ShutString
import Derived.ChangeOld
import Derived.Below
namespace Go.Proofs.Ytadljlkflmodiaa.moveSteps
open Go.ChangeShapes Go.WideShapes Go.ChangeAt Go.RowKit
open Go.ChangeMaps (open_string shut_string)
set_option linter.unusedVariables false

theorem own : ownKnob Try.prog.godebug = none := by kernel_rfl
theorem laidOut : laidOutB Try.prog = true := by kernel_rfl

theorem ceil_of {K N k : Nat} (hN : 1 ≤ N) (h1 : K ≤ k * N) (h2 : k * N < K + N) : (K + N - 1) / N = k := by
  rw [Nat.div_eq_iff (by omega)]
  constructor
  · omega
  · omega

/-! ### The walk -/
set_option maxRecDepth 20000 in
theorem walk (a : Int) (c : Int) (w : World) (ha : (Lit.int .u8 a).wf = true) (hc : (Lit.int .u8 c).wf = true) :
    Calls Try.prog 5 #[.int .u8 a, .int .u8 c] w fun e w' => e = .returned (.bool true) ∧ Below w.heap.size w w' := by
  have ha2 := wfu8 ha
  have hc2 := wfu8 hc
  clear ha hc
  obtain ⟨r, hr⟩ : ∃ r : Nat, a % 64 = (r : Int) := ⟨(a % 64).toNat, by omega⟩
  have hr2 : a.tmod 64 = (r : Int) := by rw [Int.tmod_eq_emod_of_nonneg (by omega)]; exact hr
  obtain ⟨j, hj⟩ : ∃ j : Nat, c % 70 = (j : Int) := ⟨(c % 70).toNat, by omega⟩
  have hj2 : c.tmod 70 = (j : Int) := by rw [Int.tmod_eq_emod_of_nonneg (by omega)]; exact hj
  obtain ⟨K, hK⟩ : ∃ K : Nat, K = 1 + r := ⟨_, rfl⟩
  have hKw : IntKind.i64.wrap (1 + (r : Int)) = (K : Int) := by rw [IntWalk.i64_in _ (by omega)]; omega
  have HK : Hid (1 ≤ K ∧ K ≤ 64) := Lib.hid (by omega)
  obtain ⟨N, hN⟩ : ∃ N : Nat, N = 1 + j := ⟨_, rfl⟩
  have hNw : IntKind.i64.wrap (1 + (j : Int)) = (N : Int) := by rw [IntWalk.i64_in _ (by omega)]; omega
  have HN : Hid (1 ≤ N ∧ N ≤ 70) := Lib.hid (by omega)
  clear hK hN
  go_enter Try.func5, Try.ntmps5
  go_wp2_with fail
  refine (awake15_any _).mono ?_
  rintro e w0 ⟨rfl, h0⟩
  have H0 := Lib.hid h0
  clear h0
  go_wp2_with fail
  refine (new_any w0).mono ?_
  rintro e w1 ⟨rfl, m1, b1, s1⟩
  have HG : Hid (w.heap.size ≤ w0.heap.size) := Lib.hid H0.out.size
  generalize hγ : w0.heap.size = γ at m1 s1 HG ⊢
  have HA : Hid (Calls Try.prog 11 #[.int .i64 2, .int .i64 64, .pointer (some ⟨γ, 0, none⟩)] w1 fun e w' => ∃ p b, e = .returned (.tuple #[.pointer (some ⟨p, 0, none⟩), .int .i64 0]) ∧ Ar w' p b (some γ) (List.replicate 128 0) 0 0 ∧ Below w1.heap.size w1 w' ∧ w1.heap.size ≤ p ∧ w1.heap.size ≤ b) :=
    Lib.hid (arenaNew_ok 2 64 (some γ) 0 0 w1 (by decide) (Mo.one m1) (fun q e => by cases e; exact s1))
  have B1 := Lib.hid (belowT H0.out b1)
  clear m1 b1 s1 hγ
  go_wp2_with fail
  refine HA.out.mono ?_
  rintro e w2 ⟨p, b, rfl, a2, b2, hp, hb⟩
  have HB := Lib.hid (Nat.le_trans B1.out.size hb)
  have HM : Hid (Calls Try.prog 15 #[.pointer (some ⟨p, 0, none⟩), .int .i64 0, .int .i64 64, .int .i64 (K : Int)] w2 fun e w' => ∃ q, e = .returned (.tuple #[.pointer (some ⟨q, 0, none⟩), .int .i64 0]) ∧ Mw w' q p b (some γ) (List.replicate 128 0) 0 0 0 64 K 0 ∧ Below w2.heap.size w2 w' ∧ w2.heap.size ≤ q) := Lib.hid (moveNew_ok a2 0 64 K (by
    have := HK.out
    rw [List.length_replicate]
    exact ⟨by omega, ⟨by omega, by omega⟩, ⟨by omega, by omega⟩, Or.inl (by omega)⟩))
  have B2 := Lib.hid (belowT B1.out b2)
  clear a2 b2 hp hb HA
  go_wp2_with fail
  refine HM.out.mono ?_
  rintro e w3 ⟨q, rfl, m3, b3, hq⟩
  have B3 := Lib.hid (belowT B2.out b3)
  have HQ := Lib.hid (Nat.le_trans B2.out.size hq)
  have M3 := Lib.hid m3
  clear HM m3 b3 hq
  go_wp2
  go_loopw [13, 14] (fun x i wr => ∃ (k g : Nat) (xs : List Int), x = .int .i64 k ∧ i = .int .i64 k ∧ k * N < K + N ∧ g = min (k * N) K ∧ Mw wr q p b (some γ) xs g g 0 64 K g ∧ Below w.heap.size w wr) (fun _ i _ => 65 - (intOf i).toNat)
  case atStart => exact ⟨0, 0, _, rfl, rfl, by have := HN.out; omega, by omega, M3.out, B3.out⟩
  case round =>
    obtain ⟨k, g, xs, rfl, rfl, h1, h2, hm, hb⟩ := hrel
    have hk := HK.out
    have hn := HN.out
    have hkN : k ≤ k * N := Nat.le_mul_of_pos_right k (by omega)
    have hnext : (k + 1) * N = k * N + N := Nat.succ_mul k N
    have M0 := Lib.hid hm
    have B0 := Lib.hid hb
    clear hm hb
    by_cases hlt : k * N < K
    · have hgk : g < K := by omega
      have dk : decide ((k : Int) < 65) = true := by simp; omega
      have dl : decide ((0 : Int) < (K : Int) - (g : Int)) = true := by rw [decide_eq_true_iff]; omega
      have HL : Hid (∀ w4, But (fun _ => False) wr w4 → Calls Try.prog 19 #[.pointer (some ⟨q, 0, none⟩)] w4 fun e w' => e = .returned (.int .i64 ((K : Int) - (g : Int))) ∧ But (fun _ => False) wr w') := Lib.hid (fun w4 hb4 => by
        refine (left_any (M0.out.but hb4 id id id (fun _ _ => id)).mv (by omega)).mono ?_
        rintro e w' ⟨rfl, d, rfl⟩
        exact ⟨rfl, hb4.drewN d⟩)
      obtain ⟨D, hD⟩ : ∃ D, D = goes K g (N : Int) := ⟨_, rfl⟩
      have hDm : min (N : Int) ((K : Int) - (g : Int)) = (D : Int) := by rw [hD]; unfold goes; omega
      have hDn : (D : Int) = (N : Int) ∨ (D : Int) = (K : Int) - (g : Int) := by omega
      have hD0 : D ≤ N ∧ (g : Int) + D ≤ K := by omega
      have HS : Hid (∀ w5, But (fun _ => False) wr w5 → Calls Try.prog 22 #[.pointer (some ⟨q, 0, none⟩), .int .i64 (N : Int)] w5 fun e w' => e = .returned (.int .i64 (D : Int)) ∧ Mw w' q p b (some γ) (laid xs 0 64 g D) ((g + D : Nat) : Int) g 0 64 K (g + D) ∧ Below w.heap.size w w') := Lib.hid (by
        intro w5 hb5
        have h := step_any (M0.out.but hb5 id id id (fun _ _ => id)) (N : Int)
        rw [← hD] at h
        refine h.mono ?_
        rintro e w' ⟨rfl, hm, hb⟩
        rw [more_small (by omega) (by omega) (by omega) (by omega)] at hm
        have b5 : Below w.heap.size w w5 := B0.out.trans (hb5.below B0.out.size (fun _ _ => id))
        exact ⟨rfl, by simpa using hm, b5.trans (Mw.mine hb b5.size HQ.out HB.out (fun g e => by cases e; exact HG.out))⟩)
      have HP : Hid (∀ w5 ys, Mw w5 q p b (some γ) ys ((g + D : Nat) : Int) g 0 64 K (g + D) → Below w.heap.size w w5 → Calls Try.prog 23 #[.pointer (some ⟨γ, 0, none⟩)] w5 fun e w' => e = .returned (.int .i64 (D : Int)) ∧ Mw w' q p b (some γ) ys ((g + D : Nat) : Int) ((g + D : Nat) : Int) 0 64 K (g + D) ∧ Below w.heap.size w w') := Lib.hid (by
        intro w5 ys m5 b5
        refine (lap_any γ _ _ w5 (m5.ar.mo γ rfl)).mono ?_
        rintro e w' ⟨rfl, mt, hb⟩
        exact ⟨by congr 2; omega, m5.lapped mt hb, b5.trans (hb.one b5.size HG.out)⟩)
      have HG2 := Lib.hid (show g + D = min ((k + 1) * N) K by omega)
      have HB2 := Lib.hid (show (k + 1) * N < K + N by omega)
      have HK65 := Lib.hid (show k < 65 by omega)
      have hwk : IntKind.i64.wrap ((k : Int) + 1) = (k : Int) + 1 := IntWalk.i64_in _ (by omega)
      have e1 : ((D : Int) != min (N : Int) ((K : Int) - (g : Int))) = false := by rw [hDm]; simp
      have hgi : decide (g < K) = true := by simp; omega
      clear hD hDm hDn hD0 hnext hkN h1 h2 hlt hk hn
      go_wp2_with fail
      refine (HL.out _ (But.refl _ _)).mono ?_
      rintro e w4 ⟨rfl, b4⟩
      have HL4 := Lib.hid (HL.out _ b4)
      clear b4 HL
      go_wp2_with fail
      refine HL4.out.mono ?_
      rintro e w5 ⟨rfl, b5⟩
      have HS5 := Lib.hid (HS.out _ b5)
      clear b5 HL4 HS
      go_wp2_with fail
      refine HS5.out.mono ?_
      rintro e w6 ⟨rfl, m6, b6⟩
      have HP6 := Lib.hid (HP.out _ _ m6 b6)
      clear m6 b6 HS5 HP
      go_wp2_with fail
      refine HP6.out.mono ?_
      rintro e w7 ⟨rfl, m7, b7⟩
      have M7 := Lib.hid m7
      have B7 := Lib.hid b7
      clear m7 b7 HP6
      go_wp2
      go_roundw
      case rel => exact ⟨k + 1, g + D, _, by go_num, by go_num, HB2.out, HG2.out, M7.out, B7.out⟩
      case measure => have := HK65.out; simp [intOf]; omega
    · obtain rfl : g = K := by omega
      have hceil := ceil_of (k := k) hn.1 (by omega) h1
      have hw1 : IntKind.i64.wrap ((g : Int) + (N : Int)) = (g : Int) + (N : Int) := IntWalk.i64_in _ (by omega)
      obtain ⟨M, hM⟩ : ∃ M : Nat, M = g + N - 1 := ⟨_, rfl⟩
      have hw2 : IntKind.i64.wrap ((g : Int) + (N : Int) - 1) = (M : Int) := by rw [IntWalk.i64_in _ (by omega)]; omega
      rw [← hM] at hceil
      have hq1 : (M : Int).tdiv (N : Int) = (k : Int) := by rw [← hceil]; rfl
      have hq2 : (M : Int) / (N : Int) = (k : Int) := by rw [← hceil]; rfl
      have hn0 : ¬ (N : Int) = 0 := by omega
      have hn1 : ((N : Int) == 0) = false := by simp; omega
      have hdl : decide ((0 : Int) < (g : Int) - (g : Int)) = false := by simp
      have HL : Hid (Calls Try.prog 19 #[.pointer (some ⟨q, 0, none⟩)] wr fun e w' => e = .returned (.int .i64 0) ∧ Mw w' q p b (some γ) xs g g 0 64 g g ∧ Below w.heap.size w w') := Lib.hid (by
        refine (left_any M0.out.mv (by omega)).mono ?_
        rintro e w' ⟨rfl, d, rfl⟩
        exact ⟨by simp, M0.out.drewN d, belowN B0.out d⟩)
      have HS : Hid (∀ n w5 ys, Mw w5 q p b (some γ) ys g g 0 64 g g → Below w.heap.size w w5 → Calls Try.prog 22 #[.pointer (some ⟨q, 0, none⟩), .int .i64 n] w5 fun e w' => e = .returned (.int .i64 0) ∧ Mw w' q p b (some γ) ys g g 0 64 g g ∧ Below w.heap.size w w') := Lib.hid (by
        intro n w5 ys m5 b5
        refine (step_done m5 n).mono ?_
        rintro e w' ⟨rfl, hm, hb⟩
        exact ⟨rfl, hm, b5.trans (Mw.mine hb b5.size HQ.out HB.out (fun g e => by cases e; exact HG.out))⟩)
      have h65 : k < 65 := by
        rcases Nat.lt_or_ge k 65 with h | h
        · exact h
        · have := Nat.mul_le_mul_right N h
          omega
      have dk : decide ((k : Int) < 65) = true := by simp; omega
      have hwq : IntKind.i64.wrap (k : Int) = (k : Int) := IntWalk.i64_in _ (by omega)
      have hwq2 : IntKind.i64.wrap ((M : Int).tdiv (N : Int)) = (k : Int) := by rw [hq1, hwq]
      clear hceil hnext hkN h1 h2 hlt hk hn h65 hM
      go_wp2_with fail
      refine HL.out.mono ?_
      rintro e w4 ⟨rfl, m4, b4⟩
      have HS4 := Lib.hid (HS.out (N : Int) _ _ m4 b4)
      clear m4 b4 HL
      go_wp2_with fail
      refine HS4.out.mono ?_
      rintro e w5 ⟨rfl, m5, b5⟩
      have HS5 := Lib.hid (HS.out (-1) _ _ m5 b5)
      clear m5 b5 HS4
      go_wp2_with fail
      refine HS5.out.mono ?_
      rintro e w6 ⟨rfl, m6, b6⟩
      have B6 := Lib.hid b6
      clear m6 b6 HS5
      go_wp2
      go_ret
      exact ⟨rfl, B6.out⟩

/-! ### The frame of the row -/
set_option maxRecDepth 100000 in
theorem lifted (os : Os) (started : os.Started) (H : Type) (enc : TypeId × Value → H) :
    ReturnsInHanded {} Try.checked os 5 .any (Rows.moveStepsSpec.pre6 enc Try.prog Try.f5 Rows.moveStepsRow.domain false) (Rows.moveStepsSpec.post enc Try.prog Try.f5 false true false false) := by
  refine returnsInHanded_of_change (C := Try.checked) own started (by kernel_rfl) Try.func5
    (ChangeSpec.witness6 (enc := enc) (C := Try.checked) false ⟨#[], #[.int .u8 0, .int .u8 0], []⟩ 8 (by kernel_rfl) (by kernel_rfl) (by kernel_rfl) (by kernel_rfl)) ?_
  intro W base args ds gs before hval0 hW hcnd _
  have hval : ∀ (j : Nat) t v, Try.f5.params[j]? = some t → args[j]? = some v → Value.okWide Try.prog W .any base t v := hval0
  have hW' := hW
  obtain ⟨p, q, hA0, hV, rfl, hfz, hnd⟩ := hW
  have hA : DataW.TrodAll enc Try.prog W 0 (fun _ => true) true Try.f5.params.toList args.toList ds p := hA0
  rw [Try.params5] at hA hval
  obtain ⟨v0, vs0, d0, ds0, p0, q0, hargs, rfl, rfl, h0, r0⟩ := trodAll_cons hA
  obtain ⟨v1, vs1, d1, ds1, p1, q1, rfl, rfl, rfl, h1, r1⟩ := trodAll_cons r0
  obtain ⟨rfl, rfl, rfl⟩ := trodAll_nil r1
  obtain rfl : args = #[v0, v1] := by cases args; simp_all
  obtain ⟨rfl, rfl⟩ := trodVars_none hV
  obtain ⟨a, rfl, rfl, rfl, ha⟩ := open_int Try.underlying5 (hval 0 5 v0 rfl rfl) h0
  obtain ⟨c, rfl, rfl, rfl, hc⟩ := open_int Try.underlying5 (hval 1 5 v1 rfl rfl) h1
  clear hA0 hval0
  refine (walk a c W ha hc).mono fun e W' ⟨he, bel⟩ => ?_
  subst he
  exact ⟨_, rfl, _, _, _, [], _, [], hW', trodAll_mk1 (shut_bool Try.underlying4 _), (trodAll_cons_mk (shut_int Try.underlying5 ha) (trodAll_cons_mk (shut_int Try.underlying5 hc) trodAll_mk0)), rfl, bel.frame _, fun h => by cases h⟩

theorem over : Rows.moveStepsRow.holds Try.pinned (OpenSpec.ofChange Rows.moveStepsSpec) :=
  OpenClaim.holds_of_wide 5 Try.f5 rfl rfl rfl rfl rfl rfl rfl ⟨rfl, rfl, rfl, rfl, rfl⟩ rfl rfl rfl rfl rfl (by kernel_rfl) Try.func5 (by kernel_rfl)
    (of_decide_eq_true (by kernel_rfl)) (by unfold Func.isWrapper; first | (rw [if_pos (by decide +kernel)]; kernel_rfl) | (rw [if_neg (by decide +kernel)]; exact ⟨rfl, rfl⟩))
    (fun os started H enc _ => lifted os started H enc)

theorem proved : Rows.MoveStepsSaid := over
#print axioms proved
end Go.Proofs.Ytadljlkflmodiaa.moveSteps
