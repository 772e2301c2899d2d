/-
  PoolAll: all pages are taken, each once; then there is none; given back in any turn, they are taken in the other one.
-/
import Derived.Test.YtmcdobkoedccgaaRows
import Derived.WalkKit
import Derived.ProofKit
import Derived.OpenShut
import Derived.Test.YtmcdobkoedccgaaPoolAwake
import Derived.Test.YtmcdobkoedccgaaPoolAll
import Derived.ShutString
import Derived.ChangeOld
import Derived.Below
namespace Go.Proofs.Ytmcdobkoedccgaa.poolAll
open Go.ChangeShapes Go.WideShapes Go.ChangeAt Go.RowKit
open Go.ChangeMaps (open_string shut_string)
set_option linter.unusedVariables false

theorem own : ownKnob Try.prog.godebug = none := by kernel_rfl
theorem laidOut : laidOutB Try.prog = true := by kernel_rfl

theorem rem_nat (x y : Nat) : ((x : Int).tmod (y : Int)) = ((x % y : Nat) : Int) := by
  rw [Int.tmod_eq_emod_of_nonneg (by omega)]; rfl

/-! ### The walk -/
set_option maxRecDepth 20000 in
set_option maxHeartbeats 2000000 in
theorem walk (n : Int) (turn : Int) (w : World) (hn : (Lit.int .u8 n).wf = true) (hturn : (Lit.int .u8 turn).wf = true) :
    Calls Try.prog 5 #[.int .u8 n, .int .u8 turn] w fun e w' => e = .returned (.bool true) ∧ Below w.heap.size w w' := by
  have hn2 := wf_u8 hn
  have ht2 := wf_u8 hturn
  clear hn hturn
  obtain ⟨T, rfl⟩ : ∃ T : Nat, turn = (T : Int) := ⟨turn.toNat, by omega⟩
  obtain ⟨r, hr⟩ : ∃ r : Nat, n % 40 = (r : Int) := ⟨(n % 40).toNat, by omega⟩
  have hr2 : n.tmod 40 = (r : Int) := by rw [Int.tmod_eq_emod_of_nonneg (by omega)]; exact hr
  obtain ⟨K, hK⟩ : ∃ K : Nat, K = 1 + r := ⟨_, rfl⟩
  have hKw : IntKind.i64.wrap (1 + (r : Int)) = (K : Int) := by rw [IntWalk.i64_in _ (by omega)]; omega
  have hK1 : 1 ≤ K := by omega
  have hK2 : K ≤ 40 := by omega
  have hK0 : ¬ (K : Int) = 0 := by omega
  obtain ⟨A, hA⟩ : ∃ A : Nat, A = T % K := ⟨_, rfl⟩
  have hA2 : (T : Int).tmod (K : Int) = (A : Int) := by rw [rem_nat, hA]
  have hA3 : (T : Int) % (K : Int) = (A : Int) := by rw [hA]; rfl
  have hAK : A < K := by rw [hA]; exact Nat.mod_lt _ (by omega)
  clear hA hK
  go_enter Try.func5, Try.ntmps5
  go_wp2_with fail
  refine (awake08_any w).mono ?_
  rintro e w0 ⟨rfl, h0⟩
  have H0 := Lib.hid h0
  clear h0
  go_wp2_with fail
  refine (new_ok K w0 hK1 (by omega)).mono ?_
  rintro e w1 ⟨p, a, rfl, m1, b1, hp, ha⟩
  have S1 : Hid (A1 w1 p a K ((turns K).drop 0)) := Lib.hid (A1.of m1 (Tot.new K))
  have B1 := Lib.hid (belowT H0.out b1)
  have HP : Hid (w.heap.size ≤ p ∧ w.heap.size ≤ a) := Lib.hid (by have := H0.out.size; omega)
  clear m1 b1 hp ha
  go_wp2
  go_loopw [9] (fun i wr => ∃ k : Nat, k ≤ K ∧ i = .int .i64 k ∧ A1 wr p a K ((turns K).drop k) ∧ Below w.heap.size w wr) (fun i _ => K - (intOf i).toNat)
  case atStart => exact ⟨0, by omega, rfl, S1.out, B1.out⟩
  case round =>
    obtain ⟨k, hk, rfl, hs, hb⟩ := hrel
    have HB := Lib.hid hb
    clear hb S1 B1
    by_cases hlt : k < K
    · have dk : decide ((k : Int) < (K : Int)) = true := by simp; omega
      rw [turns_drop hlt] at hs
      have HT := Lib.hid (a1_take hs (k : Int) (by omega) (by unfold Fit; omega))
      clear hs
      go_wp2_with fail
      refine HT.out.mono ?_
      rintro e w2 ⟨rfl, s2, b2⟩
      have S2 := Lib.hid s2
      have B2 := Lib.hid (HB.out.trans (Own.below b2 HB.out.size HP.out.1 HP.out.2))
      clear s2 b2 HT
      go_wp2
      go_roundw
      case rel => exact ⟨k + 1, by omega, by go_num, S2.out, B2.out⟩
      case measure => simp [intOf]; omega
    · have dk : decide ((k : Int) < (K : Int)) = false := by simp; omega
      rw [List.drop_of_length_le (by rw [turns_len]; omega)] at hs
      have HT := Lib.hid (a1_none hs 0 (by omega))
      clear hs
      go_wp2_with fail
      refine HT.out.mono ?_
      rintro e w2 ⟨rfl, s2, b2⟩
      have S2 : Hid (A1 w2 p a K (gv K A 0)) := Lib.hid s2
      have B2 := Lib.hid (HB.out.trans (Own.below b2 HB.out.size HP.out.1 HP.out.2))
      clear s2 b2 HT HB dk
      go_wp2
      go_loopw [15] (fun i wr => ∃ k : Nat, k ≤ K ∧ i = .int .i64 k ∧ A1 wr p a K (gv K A k) ∧ Below w.heap.size w wr) (fun i _ => K - (intOf i).toNat)
      case atStart => exact ⟨0, by omega, rfl, S2.out, B2.out⟩
      case round =>
        obtain ⟨k, hk, rfl, hs, hb⟩ := hrel
        have HB := Lib.hid hb
        clear hb S2 B2
        by_cases hlt : k < K
        · have dk : decide ((k : Int) < (K : Int)) = true := by simp; omega
          have HT := Lib.hid (a1_give hs (pg_lt (i := k) hAK) (gv_no hAK hlt k (Nat.le_refl _)))
          have SG : Hid (∀ v, A1 v p a K ((pg K A k : Int) :: gv K A k) → A1 v p a K (gv K A (k + 1))) := Lib.hid (fun v h => h)
          have q1 : ((A : Int) + (k : Int)).tmod (K : Int) = (pg K A k : Int) := by rw [show (A : Int) + (k : Int) = ((A + k : Nat) : Int) by omega, rem_nat]; rfl
          have q2 : ((A : Int) + (k : Int)) % (K : Int) = (pg K A k : Int) := by unfold pg; rw [show (A : Int) + (k : Int) = ((A + k : Nat) : Int) by omega]; rfl
          have qk := pg_lt (i := k) hAK
          generalize pg K A k = q at HT SG q1 q2 qk
          clear hs
          go_wp2_with fail
          refine HT.out.mono ?_
          rintro e w2 ⟨rfl, s2, b2⟩
          have S2 := Lib.hid (SG.out _ s2)
          have B2 := Lib.hid (HB.out.trans (Own.below b2 HB.out.size HP.out.1 HP.out.2))
          clear s2 b2 HT SG q1 q2 qk
          go_wp2
          go_roundw
          case rel => exact ⟨k + 1, by omega, by go_num, S2.out, B2.out⟩
          case measure => simp [intOf]; omega
        · have dk : decide ((k : Int) < (K : Int)) = false := by simp; omega
          obtain rfl : k = K := by omega
          have S3 := Lib.hid hs
          have hw1 : IntKind.i64.wrap ((k : Int) - 1) = (k : Int) - 1 := IntWalk.i64_in _ (by omega)
          clear hs
          go_wp2
          go_loopw [16] (fun i wr => ∃ j : Nat, j ≤ k ∧ i = .int .i64 ((j : Int) - 1) ∧ A1 wr p a k (gv k A j) ∧ Below w.heap.size w wr) (fun i _ => (intOf i + 1).toNat)
          case atStart => exact ⟨k, by omega, rfl, S3.out, HB.out⟩
          case round =>
            obtain ⟨j, hj, rfl, hs, hb⟩ := hrel
            have HC := Lib.hid hb
            clear hb S3 HB
            cases j with
            | succ j =>
              rw [show (((j + 1 : Nat) : Int) - 1) = (j : Int) by omega]
              have dj : decide ((0 : Int) ≤ (j : Int)) = true := by simp
              have HT := Lib.hid (a1_take (show A1 wr p a k ((pg k A j : Int) :: gv k A j) from hs) 5 (by omega) (by unfold Fit; omega))
              have q1 : ((A : Int) + (j : Int)).tmod (k : Int) = (pg k A j : Int) := by rw [show (A : Int) + (j : Int) = ((A + j : Nat) : Int) by omega, rem_nat]; rfl
              have q2 : ((A : Int) + (j : Int)) % (k : Int) = (pg k A j : Int) := by unfold pg; rw [show (A : Int) + (j : Int) = ((A + j : Nat) : Int) by omega]; rfl
              generalize pg k A j = q at HT q1 q2
              clear hs
              go_wp2_with fail
              refine HT.out.mono ?_
              rintro e w2 ⟨rfl, s2, b2⟩
              have S2 := Lib.hid s2
              have B2 := Lib.hid (HC.out.trans (Own.below b2 HC.out.size HP.out.1 HP.out.2))
              have qq : ((q : Int) != (q : Int)) = false := by simp
              clear s2 b2 HT
              go_wp2
              go_roundw
              case rel => exact ⟨j, by omega, by go_num, S2.out, B2.out⟩
              case measure => simp [intOf] <;> omega
            | zero =>
              have dj : decide ((0 : Int) ≤ ((0 : Nat) : Int) - 1) = false := rfl
              have dj2 : decide ((0 : Int) ≤ -1) = false := rfl
              have HT := Lib.hid (a1_held (show A1 wr p a k [] from hs))
              clear hs
              go_wp2_with fail
              refine HT.out.mono ?_
              rintro e w2 ⟨rfl, m, rfl⟩
              go_wp2
              go_ret
              exact ⟨rfl, belowN HC.out m⟩

/-! ### The frame of the row -/
set_option maxRecDepth 100000 in
theorem lifted (os : Os) (started : os.Started) (H : Type) (enc : TypeId × Value → H) :
    ReturnsInHanded {} Try.checked os 5 .any (Rows.poolAllSpec.pre6 enc Try.prog Try.f5 Rows.poolAllRow.domain false) (Rows.poolAllSpec.post enc Try.prog Try.f5 false true false false) := by
  refine returnsInHanded_of_change (C := Try.checked) own started (by kernel_rfl) Try.func5
    (ChangeSpec.witness6 (enc := enc) (C := Try.checked) false ⟨#[], #[.int .u8 0, .int .u8 0], []⟩ 8 (by kernel_rfl) (by kernel_rfl) (by kernel_rfl) (by kernel_rfl)) ?_
  intro W base args ds gs before hval0 hW hcnd _
  have hval : ∀ (j : Nat) t v, Try.f5.params[j]? = some t → args[j]? = some v → Value.okWide Try.prog W .any base t v := hval0
  have hW' := hW
  obtain ⟨p, q, hA0, hV, rfl, hfz, hnd⟩ := hW
  have hA : DataW.TrodAll enc Try.prog W 0 (fun _ => true) true Try.f5.params.toList args.toList ds p := hA0
  rw [Try.params5] at hA hval
  obtain ⟨v0, vs0, d0, ds0, p0, q0, hargs, rfl, rfl, h0, r0⟩ := trodAll_cons hA
  obtain ⟨v1, vs1, d1, ds1, p1, q1, rfl, rfl, rfl, h1, r1⟩ := trodAll_cons r0
  obtain ⟨rfl, rfl, rfl⟩ := trodAll_nil r1
  obtain rfl : args = #[v0, v1] := by cases args; simp_all
  obtain ⟨rfl, rfl⟩ := trodVars_none hV
  obtain ⟨n, rfl, rfl, rfl, hn⟩ := open_int Try.underlying5 (hval 0 5 v0 rfl rfl) h0
  obtain ⟨turn, rfl, rfl, rfl, hturn⟩ := open_int Try.underlying5 (hval 1 5 v1 rfl rfl) h1
  clear hA0 hval0
  refine (walk n turn W hn hturn).mono fun e W' ⟨he, bel⟩ => ?_
  subst he
  exact ⟨_, rfl, _, _, _, [], _, [], hW', trodAll_mk1 (shut_bool Try.underlying4 _), (trodAll_cons_mk (shut_int Try.underlying5 hn) (trodAll_cons_mk (shut_int Try.underlying5 hturn) trodAll_mk0)), rfl, bel.frame _, fun h => by cases h⟩

theorem over : Rows.poolAllRow.holds Try.pinned (OpenSpec.ofChange Rows.poolAllSpec) :=
  OpenClaim.holds_of_wide 5 Try.f5 rfl rfl rfl rfl rfl rfl rfl ⟨rfl, rfl, rfl, rfl, rfl⟩ rfl rfl rfl rfl rfl (by kernel_rfl) Try.func5 (by kernel_rfl)
    (of_decide_eq_true (by kernel_rfl)) (by unfold Func.isWrapper; first | (rw [if_pos (by decide +kernel)]; kernel_rfl) | (rw [if_neg (by decide +kernel)]; exact ⟨rfl, rfl⟩))
    (fun os started H enc _ => lifted os started H enc)

theorem proved : Rows.PoolAllSaid := over
#print axioms proved
end Go.Proofs.Ytmcdobkoedccgaa.poolAll
