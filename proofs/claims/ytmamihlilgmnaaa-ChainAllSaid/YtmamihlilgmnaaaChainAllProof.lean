/-
  ChainAll: whatever three numbers come in, the law returns true, and the input reads behind the call as it did.
-/
import Derived.Test.YtmamihlilgmnaaaRows
import Derived.WalkKit
import Derived.ProofKit
import Derived.OpenShut
import Derived.Test.YtmamihlilgmnaaaChainAwake
import Derived.Test.YtmamihlilgmnaaaChainLaw
import Derived.Test.YtmamihlilgmnaaaQuietImp
import Derived.Test.YtmamihlilgmnaaaWf
import Derived.ShutString
import Derived.ChangeOld
import Derived.Below
namespace Go.Proofs.Ytmamihlilgmnaaa.chainAll
open Go.ChangeShapes Go.WideShapes Go.ChangeAt Go.RowKit
open Go.ChangeMaps (open_string shut_string)
set_option linter.unusedVariables false

theorem own : ownKnob Try.prog.godebug = none := by kernel_rfl
theorem laidOut : laidOutB Try.prog = true := by kernel_rfl

/-! ### The walk -/
set_option maxRecDepth 20000 in
set_option maxHeartbeats 1000000 in
theorem walk (a : Int) (n : Int) (b : Int) (w : World) (ha : (Lit.int .u16 a).wf = true) (hn : (Lit.int .u16 n).wf = true) (hb : (Lit.int .u8 b).wf = true) :
    Calls Try.prog 4 #[.int .u16 a, .int .u16 n, .int .u8 b] w fun e w' => e = .returned (.bool true) ∧ Below w.heap.size w w' := by
  have ha2 := wfu16 ha
  have hn2 := wfu16 hn
  have hb2 := wfu8 hb
  clear ha hn hb
  obtain ⟨A, rfl⟩ : ∃ A : Nat, a = A := ⟨a.toNat, by omega⟩
  obtain ⟨n', rfl⟩ : ∃ A : Nat, n = A := ⟨n.toNat, by omega⟩
  obtain ⟨P, hP⟩ : ∃ P : Nat, 8 + b = (P : Int) := ⟨(8 + b).toNat, by omega⟩
  have hPb : 8 ≤ P ∧ P ≤ 263 := by omega
  have hwP : IntKind.i64.wrap (8 + b) = (P : Int) := (IntWalk.i64_in _ (by omega)).trans hP
  obtain ⟨K, hK⟩ : ∃ K, n' % 2000 = K := ⟨_, rfl⟩
  have hKb : K ≤ 1999 := by omega
  have hK1 : (n' : Int) % 2000 = (K : Int) := by omega
  have hK2 : (n' : Int).tmod 2000 = (K : Int) := by rw [Int.tmod_eq_emod_of_nonneg (by omega)]; exact hK1
  have HC := Lib.hid (fun v => cut_any (A : Int) (K : Int) (P : Int) v (by omega) (by omega) (by omega))
  rw [cutI_nat (by omega) (by omega)] at HC
  have hLB := len_bound (A := A) (N := K) (P := P) (by omega)
  have HD := Lib.hid (fun v => refData_any (K : Int) (P : Int) v (by omega))
  have hdb : 0 ≤ many (K : Int) (P : Int) ∧ many (K : Int) (P : Int) ≤ 2000 := by
    by_cases q : 1 ≤ K
    · have := many_facts (n := (K : Int)) (b := (P : Int)) (by omega) (by omega)
      omega
    · rw [many_off (.inl (by omega))]
      omega
  obtain ⟨dd, hdd⟩ : ∃ x, many (K : Int) (P : Int) = x := ⟨_, rfl⟩
  rw [hdd] at hLB HD hdb
  obtain ⟨L, hL⟩ : ∃ L, (cutL P (A + K) A).length = L := ⟨_, rfl⟩
  rw [hL] at hLB
  have hLe : decide ((L : Int) ≤ dd + 1) = true := decide_eq_true hLB
  have HL := Lib.hid hL
  clear hK hdd hL hP
  go_enter Try.func4, Try.ntmps4
  go_wp2_with fail
  refine (awake16_any _).mono ?_
  rintro e w0 ⟨rfl, b0⟩
  have B0 := Lib.hid b0
  clear b0
  go_wp2_with fail
  refine (HC.out _).mono ?_
  rintro e w1 ⟨sa, sc, rfl, s1, b1⟩
  have B1 := Lib.hid (belowT B0.out b1)
  rw [HL.out] at s1 ⊢
  have S1 := Lib.hid s1
  clear b1 s1 HC
  go_wp2
  go_loopw [12, 13] (fun nx i wr => ∃ k y : Nat, k ≤ L ∧ y ≤ A + K ∧ nx = .int .i64 y ∧ i = .int .i64 k ∧ Hid ((cutL P (A + K) A).drop k = cutL P (A + K) y) ∧ Hid (Below w1.heap.size w1 wr)) (fun _ i _ => L - (intOf i).toNat)
  case atStart => exact ⟨0, A, by omega, by omega, rfl, rfl, Lib.hid rfl, Lib.hid (Below.refl _ _)⟩
  case round =>
    obtain ⟨k, y, hk, hy, rfl, rfl, HDR, HB⟩ := hrel
    by_cases hlt : k < L
    · have dk : decide ((k : Int) < (L : Int)) = true := by simp; omega
      have hk0 : (0 : Int) ≤ (k : Int) := by omega
      have hkn : (k : Int) < (L : Int) := by omega
      obtain ⟨hye, hu, hdr⟩ := drop_step (by omega) HDR.out (by rw [HL.out]; exact hlt)
      obtain ⟨f1, f2, f3, f4, _, f5, f6, f7⟩ := spn_facts (p := P) (e := A + K) (x := y) (by omega) hye
      have hnx := nxt_le P (A + K) y
      obtain ⟨b1, o1, rfl, _, x0, x1, x2⟩ := (S1.out.on HB.out).at3 hu
      generalize spn P (A + K) y = u at *
      obtain ⟨un, hun⟩ : ∃ x, u.n = x := ⟨_, rfl⟩
      obtain ⟨ua, hua⟩ : ∃ x, u.a = x := ⟨_, rfl⟩
      obtain ⟨ul, hul⟩ : ∃ x, u.l = x := ⟨_, rfl⟩
      rw [hun] at x0 f1 f5
      rw [hua] at x1 f1 f3 f6
      rw [hul] at x2 f2 f3 f4 f7
      obtain ⟨m, hm⟩ : ∃ m, un * P = m := ⟨_, rfl⟩
      rw [hm] at f1
      have hmul : (un : Int) * (P : Int) = (m : Int) := by rw [← hm]; simp
      have t1 : ((m : Int) + (ua : Int) != (y : Int)) = false := by simp; omega
      have t2 : decide ((ul : Int) < 1) = false := decide_eq_false (by omega)
      have t3 : decide ((ua : Int) < 0) = false := decide_eq_false (by omega)
      have t4 : decide ((P : Int) < (ua : Int) + (ul : Int)) = false := decide_eq_false (by omega)
      have hmy : m ≤ 70000 ∧ ua ≤ 70000 ∧ ul ≤ 70000 ∧ un ≤ 70000 := by omega
      have HN := Lib.hid (show k + 1 ≤ L ∧ y + ul ≤ A + K by omega)
      have hdr2 : Hid ((cutL P (A + K) A).drop (k + 1) = cutL P (A + K) (y + ul)) := Lib.hid (by rw [f4]; exact hdr)
      clear hu hdr f1 f2 f3 f4 f5 f6 f7 hun hua hul hm hnx hye HDR
      go_wp2
      go_quiet (fail)
      go_wp2
      go_roundw
      case rel => exact ⟨k + 1, y + ul, HN.out.1, HN.out.2, by go_num, by go_num, hdr2, Lib.hid (belowN HB.out _)⟩
      case measure => simp [intOf]; omega
    · have dk : decide ((k : Int) < (L : Int)) = false := by simp; omega
      have hye : A + K ≤ y := by
        have h := HDR.out
        rw [List.drop_eq_nil_of_le (by rw [HL.out]; omega)] at h
        exact cutL_nil (by omega) h.symm
      obtain rfl : y = A + K := by omega
      have te : (((A + K : Nat) : Int) == (A : Int) + (K : Int)) = true := by simp
      clear HDR
      go_wp2_with fail
      refine (HD.out _).mono ?_
      rintro e w2 ⟨rfl, rfl⟩
      go_wp2
      go_ret
      exact ⟨rfl, belowT B1.out HB.out⟩

/-! ### The frame of the row -/
set_option maxRecDepth 100000 in
theorem lifted (os : Os) (started : os.Started) (H : Type) (enc : TypeId × Value → H) :
    ReturnsInHanded {} Try.checked os 4 .any (Rows.chainAllSpec.pre6 enc Try.prog Try.f4 Rows.chainAllRow.domain false) (Rows.chainAllSpec.post enc Try.prog Try.f4 false true false false) := by
  refine returnsInHanded_of_change (C := Try.checked) own started (by kernel_rfl) Try.func4
    (ChangeSpec.witness6 (enc := enc) (C := Try.checked) false ⟨#[], #[.int .u16 0, .int .u16 0, .int .u8 0], []⟩ 8 (by kernel_rfl) (by kernel_rfl) (by kernel_rfl) (by kernel_rfl)) ?_
  intro W base args ds gs before hval0 hW hcnd _
  have hval : ∀ (j : Nat) t v, Try.f4.params[j]? = some t → args[j]? = some v → Value.okWide Try.prog W .any base t v := hval0
  have hW' := hW
  obtain ⟨p, q, hA0, hV, rfl, hfz, hnd⟩ := hW
  have hA : DataW.TrodAll enc Try.prog W 0 (fun _ => true) true Try.f4.params.toList args.toList ds p := hA0
  rw [Try.params4] at hA hval
  obtain ⟨v0, vs0, d0, ds0, p0, q0, hargs, rfl, rfl, h0, r0⟩ := trodAll_cons hA
  obtain ⟨v1, vs1, d1, ds1, p1, q1, rfl, rfl, rfl, h1, r1⟩ := trodAll_cons r0
  obtain ⟨v2, vs2, d2, ds2, p2, q2, rfl, rfl, rfl, h2, r2⟩ := trodAll_cons r1
  obtain ⟨rfl, rfl, rfl⟩ := trodAll_nil r2
  obtain rfl : args = #[v0, v1, v2] := by cases args; simp_all
  obtain ⟨rfl, rfl⟩ := trodVars_none hV
  obtain ⟨a, rfl, rfl, rfl, ha⟩ := open_int Try.underlying27 (hval 0 27 v0 rfl rfl) h0
  obtain ⟨n, rfl, rfl, rfl, hn⟩ := open_int Try.underlying27 (hval 1 27 v1 rfl rfl) h1
  obtain ⟨b, rfl, rfl, rfl, hb⟩ := open_int Try.underlying5 (hval 2 5 v2 rfl rfl) h2
  clear hA0 hval0
  refine (walk a n b W ha hn hb).mono fun e W' ⟨he, bel⟩ => ?_
  subst he
  exact ⟨_, rfl, _, _, _, [], _, [], hW', trodAll_mk1 (shut_bool Try.underlying4 _), (trodAll_cons_mk (shut_int Try.underlying27 ha) (trodAll_cons_mk (shut_int Try.underlying27 hn) (trodAll_cons_mk (shut_int Try.underlying5 hb) trodAll_mk0))), rfl, bel.frame _, fun h => by cases h⟩

theorem over : Rows.chainAllRow.holds Try.pinned (OpenSpec.ofChange Rows.chainAllSpec) :=
  OpenClaim.holds_of_wide 4 Try.f4 rfl rfl rfl rfl rfl rfl rfl ⟨rfl, rfl, rfl, rfl, rfl⟩ rfl rfl rfl rfl rfl (by kernel_rfl) Try.func4 (by kernel_rfl)
    (of_decide_eq_true (by kernel_rfl)) (by unfold Func.isWrapper; first | (rw [if_pos (by decide +kernel)]; kernel_rfl) | (rw [if_neg (by decide +kernel)]; exact ⟨rfl, rfl⟩))
    (fun os started H enc _ => lifted os started H enc)

theorem proved : Rows.ChainAllSaid := over
#print axioms proved
end Go.Proofs.Ytmamihlilgmnaaa.chainAll
