/-
  BitsFill: places set at the least one that isn't, one by one, fill all, in turn; then there is none; taken away at the greatest one, they empty in the other turn. No condition.
-/
import Derived.Test.YtbdjocoedcgfbaaRows
import Derived.WalkKit
import Derived.ProofKit
import Derived.OpenShut
import Derived.Test.YtbdjocoedcgfbaaBitsAny
import Derived.Test.YtbdjocoedcgfbaaWf
import Derived.ShutString
import Derived.ChangeOld
import Derived.Below
namespace Go.Proofs.Ytbdjocoedcgfbaa.bitsFill
open Go.ChangeShapes Go.WideShapes Go.ChangeAt Go.RowKit
open Go.ChangeMaps (open_string shut_string)
set_option linter.unusedVariables false

theorem own : ownKnob Try.prog.godebug = none := by kernel_rfl
theorem laidOut : laidOutB Try.prog = true := by kernel_rfl

/-- Of K places the first i are set. -/
def fil (K i : Nat) : List Bool := (List.range K).map fun j => decide (j < i)
theorem fil_len (K i : Nat) : (fil K i).length = K := by simp [fil]
theorem bt_fil (K i j : Nat) : bt (fil K i) j = (decide (j < K) && decide (j < i)) := by
  unfold bt fil
  by_cases h : j < K
  · simp [h]
  · simp [h]
theorem fil_zero (K : Nat) : List.replicate K false = fil K 0 := by
  apply List.ext_getElem?
  intro j
  by_cases h : j < K
  · simp [fil, h]
  · rw [List.getElem?_eq_none (by simp; omega), List.getElem?_eq_none (by rw [fil_len]; omega)]
theorem fil_eq {L : List Bool} {K i : Nat} (hl : L.length = K) (h : ∀ j, j < K → bt L j = decide (j < i)) : L = fil K i := by
  apply List.ext_getElem?
  intro j
  by_cases q : j < K
  · rw [bt_get (by omega), bt_get (by rw [fil_len]; exact q), h j q, bt_fil]
    simp [q]
  · rw [List.getElem?_eq_none (by omega), List.getElem?_eq_none (by rw [fil_len]; omega)]
theorem fil_up {K i : Nat} (h : i < K) : setL (fil K i) (i : Int) true = fil K (i + 1) ∧ setE (fil K i) (i : Int) true = 0 := by
  have hne : bt (fil K i) i ≠ true := by rw [bt_fil]; simp
  have hi : i < (fil K i).length := by rw [fil_len]; exact h
  refine ⟨?_, (setL_flip hi hne).2⟩
  rw [(setL_flip hi hne).1]
  refine fil_eq (by rw [List.length_set, fil_len]) (fun j hj => ?_)
  rw [bt_set hi, bt_fil]
  by_cases e : j = i
  · subst e; simp
  · rw [if_neg e]
    simp [hj]
    omega
theorem fil_down {K i : Nat} (h : i < K) : setL (fil K (i + 1)) (i : Int) false = fil K i ∧ setE (fil K (i + 1)) (i : Int) false = 0 := by
  have hne : bt (fil K (i + 1)) i ≠ false := by rw [bt_fil]; simp [h]
  have hi : i < (fil K (i + 1)).length := by rw [fil_len]; exact h
  refine ⟨?_, (setL_flip hi hne).2⟩
  rw [(setL_flip hi hne).1]
  refine fil_eq (by rw [List.length_set, fil_len]) (fun j hj => ?_)
  rw [bt_set hi, bt_fil]
  by_cases e : j = i
  · subst e; simp
  · rw [if_neg e]
    simp [hj]
    omega
theorem fil_low {K i : Nat} (h : i < K) : lowOf (fil K i) = (i : Int) := low_at (by rw [fil_len]; exact h) (by rw [bt_fil]; simp) (fun j hj => by rw [bt_fil]; simp; omega)
theorem fil_full (K : Nat) : lowOf (fil K K) = -1 := low_none (fun j hj => by rw [fil_len] at hj; rw [bt_fil]; simp [hj])
theorem fil_high {K i : Nat} (h : i < K) : highOf (fil K (i + 1)) = (i : Int) := high_at (by rw [bt_fil]; simp [h]) (fun j hj => by rw [bt_fil]; simp; omega)
theorem fil_none (K : Nat) : highOf (fil K 0) = -1 := high_none (fun j => by rw [bt_fil]; simp)
theorem fil_count (K : Nat) : (fil K 0).count true = 0 := by
  rw [← fil_zero, List.count_replicate]
  rfl

/-! ### The walk -/
set_option maxRecDepth 20000 in
set_option maxHeartbeats 2000000 in
theorem walk (n : Int) (w : World) (hn : (Lit.int .u16 n).wf = true) :
    Calls Try.prog 5 #[.int .u16 n] w fun e w' => e = .returned (.bool true) ∧ Below w.heap.size w w' := by
  have A := Lib.hid (awake11_any w)
  obtain ⟨K, hK⟩ : ∃ K : Nat, 1 + n % 512 = (K : Int) := ⟨(1 + n % 512).toNat, by omega⟩
  have hK1 : 1 ≤ K := by omega
  have hK2 : K ≤ 512 := by omega
  have hm : n.tmod 512 = (K : Int) - 1 := by rw [Int.tmod_eq_emod_of_nonneg (by have := wfu16 hn; omega)]; omega
  have hm2 : n % 512 = (K : Int) - 1 := by omega
  have wK : IntKind.i64.wrap (1 + ((K : Int) - 1)) = (K : Int) := by rw [IntWalk.i64_in _ (by omega)]; omega
  have wn : IntKind.i64.wrap n = n := IntWalk.i64_in _ (by have := wfu16 hn; omega)
  have HN := Lib.hid (new_ok (K : Int) (by omega) (by omega))
  clear hK hn
  go_enter Try.func5, Try.ntmps5
  go_wp2_with fail
  refine A.out.mono ?_
  rintro e w0 ⟨rfl, h0⟩
  have H0 := Lib.hid h0
  clear h0
  go_wp2_with fail
  refine (HN.out w0).mono ?_
  rintro e w1 ⟨rfl, r1, b1, _⟩
  rw [Int.toNat_natCast, fil_zero] at r1
  have B1 := Lib.hid (belowT H0.out b1)
  have R1' := Lib.hid r1
  have HP : Hid (w.heap.size ≤ w0.heap.size) := Lib.hid H0.out.size
  clear r1 b1 HN A hm hm2 wK wn
  generalize w0.heap.size = p at R1' HP ⊢
  clear H0
  go_wp2
  go_loopw [7] (fun i wr => ∃ k : Nat, k ≤ K ∧ i = .int .i64 k ∧ Hid (Bm wr p (fil K k)) ∧ Hid (Below w.heap.size w wr)) (fun i _ => K - (intOf i).toNat)
  case atStart => exact ⟨0, by omega, rfl, R1', B1⟩
  case round =>
    obtain ⟨k, hk, rfl, HR, HB⟩ := hrel
    clear R1' B1
    by_cases hlt : k < K
    · have dk : decide ((k : Int) < (K : Int)) = true := by simp; omega
      have L1 : Hid (Calls Try.prog 16 #[.pointer (some ⟨p, 0, none⟩)] wr (R1 (k : Int) wr)) := Lib.hid (by have := low_any HR.out; rwa [fil_low hlt] at this)
      have L2 : Hid (Calls Try.prog 11 #[.pointer (some ⟨p, 0, none⟩), .int .i64 (k : Int), .bool true] wr (SetEnds p (fil K (k + 1)) 0 wr)) := Lib.hid (by have := set_any HR.out (k : Int) true; rwa [(fil_up hlt).1, (fil_up hlt).2] at this)
      have e1 : ((k : Int) != (k : Int)) = false := by simp
      go_wp2_with fail
      refine L1.out.mono ?_
      rintro e w2 ⟨rfl, rfl⟩
      go_wp2_with fail
      refine L2.out.mono ?_
      rintro e w2 ⟨rfl, r2, b2⟩
      have R2 := Lib.hid r2
      have B2 := Lib.hid (HB.out.trans (b2.one HB.out.size HP.out))
      clear r2 b2
      have L3 : Hid (Calls Try.prog 17 #[.pointer (some ⟨p, 0, none⟩)] w2 (R1 (k : Int) w2)) := Lib.hid (by have := high_any R2.out; rwa [fil_high hlt] at this)
      go_wp2_with fail
      refine L3.out.mono ?_
      rintro e w3 ⟨rfl, rfl⟩
      go_wp2
      go_roundw
      case rel => exact ⟨k + 1, by omega, by go_num, R2, B2⟩
      case measure => simp [intOf]; omega
    · have dk : decide ((k : Int) < (K : Int)) = false := by simp; omega
      obtain rfl : k = K := by omega
      have L1 : Hid (Calls Try.prog 16 #[.pointer (some ⟨p, 0, none⟩)] wr (R1 (-1) wr)) := Lib.hid (by have := low_any HR.out; rwa [fil_full] at this)
      go_wp2_with fail
      refine L1.out.mono ?_
      rintro e w2 ⟨rfl, rfl⟩
      clear L1
      go_wp2
      obtain ⟨wo, hwo⟩ : ∃ wo : World, wo = wr := ⟨_, rfl⟩
      go_loopw [9] (fun i wx => ∃ (j : Nat) (z : Int), j ≤ k ∧ z = (j : Int) - 1 ∧ i = .int .i64 z ∧ Hid (Bm wx p (fil k j)) ∧ Hid (Below w.heap.size w wx)) (fun i _ => (intOf i + 1).toNat)
      case atStart => exact ⟨k, (k : Int) - 1, by omega, rfl, rfl, HR, HB⟩
      case round =>
        obtain ⟨j, z, hj, hz, rfl, HR2, HB2⟩ := hrel
        clear HR HB hwo
        cases j with
        | zero =>
          have dz : decide ((0 : Int) ≤ z) = false := by simp; omega
          have L2 : Hid (Calls Try.prog 17 #[.pointer (some ⟨p, 0, none⟩)] wr (R1 (-1) wr)) := Lib.hid (by have := high_any HR2.out; rwa [fil_none] at this)
          have L3 : Hid (Calls Try.prog 18 #[.pointer (some ⟨p, 0, none⟩)] wr (R1 0 wr)) := Lib.hid (by have := count_any HR2.out; rwa [fil_count] at this)
          go_wp2_with fail
          refine L2.out.mono ?_
          rintro e w3 ⟨rfl, rfl⟩
          go_wp2_with fail
          refine L3.out.mono ?_
          rintro e w3 ⟨rfl, rfl⟩
          go_wp2
          go_ret
          exact ⟨rfl, HB2.out⟩
        | succ j =>
          obtain rfl : z = (j : Int) := by omega
          clear hz
          have dz : decide ((0 : Int) ≤ (j : Int)) = true := by simp
          have hlj : j < k := by omega
          have L1 : Hid (Calls Try.prog 17 #[.pointer (some ⟨p, 0, none⟩)] wr (R1 (j : Int) wr)) := Lib.hid (by have := high_any HR2.out; rwa [fil_high hlj] at this)
          have L2 : Hid (Calls Try.prog 11 #[.pointer (some ⟨p, 0, none⟩), .int .i64 (j : Int), .bool false] wr (SetEnds p (fil k j) 0 wr)) := Lib.hid (by have := set_any HR2.out (j : Int) false; rwa [(fil_down hlj).1, (fil_down hlj).2] at this)
          have e1 : ((j : Int) != (j : Int)) = false := by simp
          go_wp2_with fail
          refine L1.out.mono ?_
          rintro e w2 ⟨rfl, rfl⟩
          go_wp2_with fail
          refine L2.out.mono ?_
          rintro e w2 ⟨rfl, r2, b2⟩
          have R2 := Lib.hid r2
          have B2 := Lib.hid (HB2.out.trans (b2.one HB2.out.size HP.out))
          clear r2 b2
          have L3 : Hid (Calls Try.prog 16 #[.pointer (some ⟨p, 0, none⟩)] w2 (R1 (j : Int) w2)) := Lib.hid (by have := low_any R2.out; rwa [fil_low hlj] at this)
          go_wp2_with fail
          refine L3.out.mono ?_
          rintro e w3 ⟨rfl, rfl⟩
          go_wp2
          go_roundw
          case rel => exact ⟨j, (j : Int) - 1, by omega, rfl, by go_num, R2, B2⟩
          case measure => simp [intOf] <;> omega

/-! ### The frame of the row -/
set_option maxRecDepth 100000 in
theorem lifted (os : Os) (started : os.Started) (H : Type) (enc : TypeId × Value → H) :
    ReturnsInHanded {} Try.checked os 5 .any (Rows.bitsFillSpec.pre6 enc Try.prog Try.f5 Rows.bitsFillRow.domain false) (Rows.bitsFillSpec.post enc Try.prog Try.f5 false true false false) := by
  refine returnsInHanded_of_change (C := Try.checked) own started (by kernel_rfl) Try.func5
    (ChangeSpec.witness6 (enc := enc) (C := Try.checked) false ⟨#[], #[.int .u16 0], []⟩ 8 (by kernel_rfl) (by kernel_rfl) (by kernel_rfl) (by kernel_rfl)) ?_
  intro W base args ds gs before hval0 hW hcnd _
  have hval : ∀ (j : Nat) t v, Try.f5.params[j]? = some t → args[j]? = some v → Value.okWide Try.prog W .any base t v := hval0
  have hW' := hW
  obtain ⟨p, q, hA0, hV, rfl, hfz, hnd⟩ := hW
  have hA : DataW.TrodAll enc Try.prog W 0 (fun _ => true) true Try.f5.params.toList args.toList ds p := hA0
  rw [Try.params5] at hA hval
  obtain ⟨v0, vs0, d0, ds0, p0, q0, hargs, rfl, rfl, h0, r0⟩ := trodAll_cons hA
  obtain ⟨rfl, rfl, rfl⟩ := trodAll_nil r0
  obtain rfl : args = #[v0] := by cases args; simp_all
  obtain ⟨rfl, rfl⟩ := trodVars_none hV
  obtain ⟨n, rfl, rfl, rfl, hn⟩ := open_int Try.underlying40 (hval 0 40 v0 rfl rfl) h0
  clear hA0 hval0
  refine (walk n W hn).mono fun e W' ⟨he, bel⟩ => ?_
  subst he
  exact ⟨_, rfl, _, _, _, [], _, [], hW', trodAll_mk1 (shut_bool Try.underlying4 _), (trodAll_cons_mk (shut_int Try.underlying40 hn) trodAll_mk0), rfl, bel.frame _, fun h => by cases h⟩

theorem over : Rows.bitsFillRow.holds Try.pinned (OpenSpec.ofChange Rows.bitsFillSpec) :=
  OpenClaim.holds_of_wide 5 Try.f5 rfl rfl rfl rfl rfl rfl rfl ⟨rfl, rfl, rfl, rfl, rfl⟩ rfl rfl rfl rfl rfl (by kernel_rfl) Try.func5 (by kernel_rfl)
    (of_decide_eq_true (by kernel_rfl)) (by unfold Func.isWrapper; first | (rw [if_pos (by decide +kernel)]; kernel_rfl) | (rw [if_neg (by decide +kernel)]; exact ⟨rfl, rfl⟩))
    (fun os started H enc _ => lifted os started H enc)

theorem proved : Rows.BitsFillSaid := over
#print axioms proved
end Go.Proofs.Ytbdjocoedcgfbaa.bitsFill
