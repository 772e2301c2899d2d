/-
  PageFill: blocks are taken from the least one on, until the page is full; the greatest one that is taken is the last one. No condition.
-/
import Derived.Test.YtglaohclbepmfaaRows
import Derived.WalkKit
import Derived.ProofKit
import Derived.OpenShut
import Derived.Test.YtglaohclbepmfaaPageRun
import Derived.ShutString
import Derived.ChangeOld
import Derived.Below
namespace Go.Proofs.Ytglaohclbepmfaa.pageFill
open Go.ChangeShapes Go.WideShapes Go.ChangeAt Go.RowKit
open Go.ChangeMaps (open_string shut_string)
set_option linter.unusedVariables false

theorem own : ownKnob Try.prog.godebug = none := by kernel_rfl
theorem laidOut : laidOutB Try.prog = true := by kernel_rfl

/-- Of K blocks the first i have owners 1000, 1001, .. -/
def fil (K i : Nat) : List Int := (List.range K).map fun j => if j < i then 1000 + (j : Int) else -1
theorem fil_len (K i : Nat) : (fil K i).length = K := by simp [fil]
theorem ow_fil (K i j : Nat) : ow (fil K i) j = if j < K ∧ j < i then 1000 + (j : Int) else -1 := by
  unfold ow fil
  by_cases h : j < K
  · simp [h]
  · simp [h]
theorem fil_zero (K : Nat) : List.replicate K (-1) = fil K 0 := by
  apply List.ext_getElem?
  intro j
  by_cases h : j < K
  · simp [fil, h]
  · rw [List.getElem?_eq_none (by simp; omega), List.getElem?_eq_none (by rw [fil_len]; omega)]
theorem fil_up {K i : Nat} (h : i < K) : (fil K i).set i (1000 + (i : Int)) = fil K (i + 1) := by
  have hi : i < (fil K i).length := by rw [fil_len]; exact h
  apply List.ext_getElem?
  intro j
  by_cases q : j < K
  · rw [ow_get (by rw [List.length_set, fil_len]; exact q), ow_get (by rw [fil_len]; exact q), ow_set hi, ow_fil, ow_fil]
    congr 1
    by_cases e : j = i
    · subst e; rw [if_pos rfl, if_pos (by omega)]
    · rw [if_neg e]
      by_cases z : j < i
      · rw [if_pos (by omega), if_pos (by omega)]
      · rw [if_neg (by omega), if_neg (by omega)]
  · rw [List.getElem?_eq_none (by rw [List.length_set, fil_len]; omega), List.getElem?_eq_none (by rw [fil_len]; omega)]
theorem fil_on {K i j : Nat} (h1 : j < K) (h2 : j < i) : ow (fil K i) j ≠ -1 := by
  rw [ow_fil, if_pos ⟨h1, h2⟩]
  omega
theorem fil_off {K i j : Nat} (h : i ≤ j) : ow (fil K i) j = -1 := by rw [ow_fil, if_neg (by omega)]
theorem fil_hole {K i : Nat} (h : i < K) : holeOf (fil K i) = (i : Int) := hole_at (by rw [fil_len]; exact h) (fil_off (Nat.le_refl _)) (fun j hj => fil_on (by omega) hj)
theorem fil_full (K : Nat) : holeOf (fil K K) = -1 := hole_none (fun j hj => by rw [fil_len] at hj; exact fil_on hj hj)
theorem fil_top {K i : Nat} (h : i < K) : topOf (fil K (i + 1)) = (i : Int) := top_at (fil_on h (by omega)) (fun j hj => fil_off (by omega))
theorem fil_used {K : Nat} : ∀ i : Nat, i ≤ K → usedN (fil K i) = i
  | 0, _ => by
    rw [← fil_zero]
    unfold usedN
    rw [used_new, List.count_replicate]
    rfl
  | i + 1, h => by
    rw [← fil_up (by omega), usedN_fill (by rw [fil_len]; omega) (fil_off (Nat.le_refl _)) (by omega), fil_used i (by omega)]
theorem fil_fullB {K i : Nat} (h : i < K) : (holeOf (fil K (i + 1)) == -1) = ((i : Int) == (K : Int) - 1) := by
  by_cases e : i + 1 = K
  · rw [e, fil_full]
    have : ((i : Int) == (K : Int) - 1) = true := by simp; omega
    rw [this]
    rfl
  · rw [fil_hole (by omega)]
    have h1 : (((i + 1 : Nat) : Int) == -1) = false := by simp; omega
    have h2 : ((i : Int) == (K : Int) - 1) = false := by simp; omega
    rw [h1, h2]

/-! ### The walk -/
set_option maxRecDepth 20000 in
set_option maxHeartbeats 2000000 in
theorem walk (n : Int) (w : World) (hn : (Lit.int .u8 n).wf = true) :
    Calls Try.prog 6 #[.int .u8 n] w fun e w' => e = .returned (.bool true) ∧ Below w.heap.size w w' := by
  have A := Lib.hid (awake12_any w)
  have n12 := wfu8 hn
  obtain ⟨K, hK⟩ : ∃ K : Nat, 1 + n = (K : Int) := ⟨(1 + n).toNat, by omega⟩
  have hK1 : 1 ≤ K := by omega
  have hK2 : K ≤ 256 := by omega
  have wK : IntKind.i64.wrap (1 + n) = (K : Int) := by rw [IntWalk.i64_in _ (by omega)]; omega
  have wn : IntKind.i64.wrap n = n := IntWalk.i64_in _ (by omega)
  have HN := Lib.hid (pageNew_ok (K : Int) (by omega) (by omega))
  obtain rfl : n = (K : Int) - 1 := by omega
  have wK2 : IntKind.i64.wrap (1 + ((K : Int) - 1)) = (K : Int) := by rw [IntWalk.i64_in _ (by omega)]; omega
  clear hK hn n12 wK
  go_enter Try.func6, Try.ntmps6
  go_wp2_with fail
  refine A.out.mono ?_
  rintro e w0 ⟨rfl, h0⟩
  have H0 := Lib.hid h0
  clear h0
  go_wp2_with fail
  refine (HN.out w0).mono ?_
  rintro e w1 ⟨p, b, m, rfl, r1, b1, _, lb, lm⟩
  rw [Int.toNat_natCast, fil_zero] at r1
  have B1 := Lib.hid (belowT H0.out b1)
  have R1' := Lib.hid r1
  have HP : Hid (w.heap.size ≤ b ∧ w.heap.size ≤ m) := Lib.hid (by have := H0.out.size; omega)
  clear r1 b1 HN A wK2 wn lb lm H0
  go_wp2
  go_loopw [7] (fun i wr => ∃ k : Nat, k ≤ K ∧ i = .int .i64 k ∧ Hid (Pm wr p b m (fil K k)) ∧ Hid (Below w.heap.size w wr)) (fun i _ => K - (intOf i).toNat)
  case atStart => exact ⟨0, by omega, rfl, R1', B1⟩
  case round =>
    obtain ⟨k, hk, rfl, HR, HB⟩ := hrel
    clear R1' B1
    by_cases hlt : k < K
    · have dk : decide ((k : Int) < (K : Int)) = true := by simp; omega
      have L1 : Hid (Calls Try.prog 18 #[.pointer (some ⟨p, 0, none⟩), .int .i64 (1000 + (k : Int))] wr (PgEnds (.tuple #[.int .i64 (k : Int), .int .i64 0]) p b m (fil K (k + 1)) wr)) := Lib.hid (by
        have := pageTake_any HR.out (1000 + (k : Int)) (by omega)
        obtain ⟨e1, e2, e3⟩ := take_at (o := 1000 + (k : Int)) (by omega) (fil_hole hlt)
        rwa [e1, e2, e3, fil_up hlt] at this)
      have e1 : ((k : Int) != (k : Int)) = false := by simp
      have e2 : ((k : Int) + 1 != (k : Int) + 1) = false := by simp
      have w1k : IntKind.i64.wrap (1000 + (k : Int)) = 1000 + (k : Int) := IntWalk.i64_in _ (by omega)
      go_wp2_with fail
      refine L1.out.mono ?_
      rintro e w2 ⟨rfl, r2, b2⟩
      have B2 := Lib.hid (HB.out.trans (b2.below HB.out.size (fun i hi q => by have := HP.out; omega)))
      have L2 : Hid (∀ v, Below w2.heap.size w2 v → Calls Try.prog 17 #[.pointer (some ⟨p, 0, none⟩)] v (IB (k : Int) v)) := Lib.hid (fun v hv => by have := top_any (r2.below hv); rwa [fil_top hlt] at this)
      have L3 : Hid (∀ v, Below w2.heap.size w2 v → Calls Try.prog 14 #[.pointer (some ⟨p, 0, none⟩)] v (IB ((k : Int) + 1) v)) := Lib.hid (fun v hv => by have := used_any (r2.below hv); rwa [fil_used (k + 1) (by omega)] at this)
      have L4 : Hid (∀ v, Below w2.heap.size w2 v → Calls Try.prog 15 #[.pointer (some ⟨p, 0, none⟩)] v (BB ((k : Int) == (K : Int) - 1) v)) := Lib.hid (fun v hv => by have := full_any (r2.below hv); rwa [fil_fullB hlt] at this)
      have R2 := Lib.hid r2
      clear r2 b2 L1 HR HB
      generalize hy : ((k : Int) == (K : Int) - 1) = y at L4
      have e3 : (y != y) = false := by simp
      go_wp2_with fail
      refine (L2.out _ (Below.refl _ _)).mono ?_
      rintro e w3 ⟨rfl, b3⟩
      have B3 := Lib.hid b3
      clear b3 L2
      go_wp2_with fail
      refine (L3.out _ B3.out).mono ?_
      rintro e w4 ⟨rfl, b4⟩
      have B4 := Lib.hid (belowT B3.out b4)
      clear b4 B3 L3
      go_wp2_with fail
      refine (L4.out _ B4.out).mono ?_
      rintro e w5 ⟨rfl, b5⟩
      have B5 := Lib.hid (belowT B4.out b5)
      clear b5 B4 L4
      go_wp2
      go_roundw
      case rel => exact ⟨k + 1, by omega, by go_num, Lib.hid (R2.out.below B5.out), Lib.hid (belowT B2.out B5.out)⟩
      case measure => simp [intOf]; omega
    · have dk : decide ((k : Int) < (K : Int)) = false := by simp; omega
      obtain rfl : k = K := by omega
      have L1 : Hid (Calls Try.prog 18 #[.pointer (some ⟨p, 0, none⟩), .int .i64 0] wr (PgEnds (.tuple #[.int .i64 0, .int .i64 5]) p b m (fil k k) wr)) := Lib.hid (by
        have := pageTake_any HR.out 0 (by omega)
        obtain ⟨e1, e2, e3⟩ := take_full (o := 0) (by omega) (fil_full k)
        rwa [e1, e2, e3] at this)
      go_wp2_with fail
      refine L1.out.mono ?_
      rintro e w2 ⟨rfl, r2, b2⟩
      have B2 := Lib.hid (HB.out.trans (b2.below HB.out.size (fun i hi q => by have := HP.out; omega)))
      have L2 : Hid (Calls Try.prog 16 #[.pointer (some ⟨p, 0, none⟩)] w2 (IB (-1) w2)) := Lib.hid (by have := hole_any r2; rwa [fil_full] at this)
      have L3 : Hid (∀ v, Below w2.heap.size w2 v → Calls Try.prog 20 #[.pointer (some ⟨p, 0, none⟩), .int .i64 ((k : Int) - 1)] v (R1 (999 + (k : Int)) v)) := Lib.hid (fun v hv => by
        have := owner_any (r2.below hv) (((k - 1 : Nat)) : Int) (by omega)
        rw [ownerOf_nat (by rw [fil_len]; omega), ow_fil, if_pos (by omega), show (((k - 1 : Nat)) : Int) = (k : Int) - 1 by omega, show (1000 + ((k : Int) - 1)) = 999 + (k : Int) by omega] at this
        exact this)
      have e2 : ((999 + (k : Int)) == 999 + (k : Int)) = true := by simp
      clear r2 b2 L1 HR HB
      go_wp2_with fail
      refine L2.out.mono ?_
      rintro e w3 ⟨rfl, b3⟩
      have B3 := Lib.hid b3
      clear b3 L2
      go_wp2_with fail
      refine (L3.out _ B3.out).mono ?_
      rintro e w4 ⟨rfl, rfl⟩
      go_wp2
      go_ret
      exact ⟨rfl, belowT B2.out B3.out⟩

/-! ### The frame of the row -/
set_option maxRecDepth 100000 in
theorem lifted (os : Os) (started : os.Started) (H : Type) (enc : TypeId × Value → H) :
    ReturnsInHanded {} Try.checked os 6 .any (Rows.pageFillSpec.pre6 enc Try.prog Try.f6 Rows.pageFillRow.domain false) (Rows.pageFillSpec.post enc Try.prog Try.f6 false true false false) := by
  refine returnsInHanded_of_change (C := Try.checked) own started (by kernel_rfl) Try.func6
    (ChangeSpec.witness6 (enc := enc) (C := Try.checked) false ⟨#[], #[.int .u8 0], []⟩ 8 (by kernel_rfl) (by kernel_rfl) (by kernel_rfl) (by kernel_rfl)) ?_
  intro W base args ds gs before hval0 hW hcnd _
  have hval : ∀ (j : Nat) t v, Try.f6.params[j]? = some t → args[j]? = some v → Value.okWide Try.prog W .any base t v := hval0
  have hW' := hW
  obtain ⟨p, q, hA0, hV, rfl, hfz, hnd⟩ := hW
  have hA : DataW.TrodAll enc Try.prog W 0 (fun _ => true) true Try.f6.params.toList args.toList ds p := hA0
  rw [Try.params6] at hA hval
  obtain ⟨v0, vs0, d0, ds0, p0, q0, hargs, rfl, rfl, h0, r0⟩ := trodAll_cons hA
  obtain ⟨rfl, rfl, rfl⟩ := trodAll_nil r0
  obtain rfl : args = #[v0] := by cases args; simp_all
  obtain ⟨rfl, rfl⟩ := trodVars_none hV
  obtain ⟨n, rfl, rfl, rfl, hn⟩ := open_int Try.underlying5 (hval 0 5 v0 rfl rfl) h0
  clear hA0 hval0
  refine (walk n W hn).mono fun e W' ⟨he, bel⟩ => ?_
  subst he
  exact ⟨_, rfl, _, _, _, [], _, [], hW', trodAll_mk1 (shut_bool Try.underlying4 _), (trodAll_cons_mk (shut_int Try.underlying5 hn) trodAll_mk0), rfl, bel.frame _, fun h => by cases h⟩

theorem over : Rows.pageFillRow.holds Try.pinned (OpenSpec.ofChange Rows.pageFillSpec) :=
  OpenClaim.holds_of_wide 6 Try.f6 rfl rfl rfl rfl rfl rfl rfl ⟨rfl, rfl, rfl, rfl, rfl⟩ rfl rfl rfl rfl rfl (by kernel_rfl) Try.func6 (by kernel_rfl)
    (of_decide_eq_true (by kernel_rfl)) (by unfold Func.isWrapper; first | (rw [if_pos (by decide +kernel)]; kernel_rfl) | (rw [if_neg (by decide +kernel)]; exact ⟨rfl, rfl⟩))
    (fun os started H enc _ => lifted os started H enc)

theorem proved : Rows.PageFillSaid := over
#print axioms proved
end Go.Proofs.Ytglaohclbepmfaa.pageFill
