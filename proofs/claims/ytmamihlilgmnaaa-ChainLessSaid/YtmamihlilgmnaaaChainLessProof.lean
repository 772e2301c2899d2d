/-
  ChainLess: whatever two numbers come in, the law returns true, and the input reads behind the call as it did.
-/
import Derived.Test.YtmamihlilgmnaaaRows
import Derived.WalkKit
import Derived.ProofKit
import Derived.OpenShut
import Derived.Test.YtmamihlilgmnaaaChainAwake
import Derived.Test.YtmamihlilgmnaaaWf
import Derived.ShutString
import Derived.ChangeOld
import Derived.Below
namespace Go.Proofs.Ytmamihlilgmnaaa.chainLess
open Go.ChangeShapes Go.WideShapes Go.ChangeAt Go.RowKit
open Go.ChangeMaps (open_string shut_string)
set_option linter.unusedVariables false

theorem own : ownKnob Try.prog.godebug = none := by kernel_rfl
theorem laidOut : laidOutB Try.prog = true := by kernel_rfl

theorem many_add {n p : Int} (hn : 1 ≤ n) (hp : 1 ≤ p) : many (n + p) p = many n p + 1 := by
  obtain ⟨g1, g2, g3, g4⟩ := many_facts hn hp
  have e := Int.add_mul (many n p) 1 p
  exact many_window (by omega) hp (by omega) (by omega)
theorem many_le {n p : Int} (hn : 1 ≤ n) (hp : 1 ≤ p) : many n p ≤ many (n + 1) p := by
  obtain ⟨g1, g2, g3, g4⟩ := many_facts hn hp
  obtain ⟨k1, k2, k3, k4⟩ := many_facts (n := n + 1) (b := p) (by omega) hp
  by_cases h : many (n + 1) p < many n p
  · have h1 := Int.mul_le_mul_of_nonneg_right (show many (n + 1) p + 1 ≤ many n p by omega) (show 0 ≤ p by omega)
    have h2 := Int.add_mul (many (n + 1) p) 1 p
    omega
  · omega

/-! ### The walk -/
set_option maxRecDepth 20000 in
theorem walk (a : Int) (b : Int) (w : World) (ha : (Lit.int .u16 a).wf = true) (hb : (Lit.int .u8 b).wf = true) :
    Calls Try.prog 6 #[.int .u16 a, .int .u8 b] w fun e w' => e = .returned (.bool true) ∧ Below w.heap.size w w' := by
  have ha2 := wfu16 ha
  have hb2 := wfu8 hb
  clear ha hb
  obtain ⟨p, hp⟩ : ∃ p, 8 + b = p := ⟨_, rfl⟩
  obtain ⟨n, hn⟩ : ∃ n, 1 + a = n := ⟨_, rfl⟩
  have hpb : 8 ≤ p ∧ p ≤ 263 := by omega
  have hnb : 1 ≤ n ∧ n ≤ 65536 := by omega
  have hwp : IntKind.i64.wrap (8 + b) = p := (IntWalk.i64_in _ (by omega)).trans hp
  have hwn : IntKind.i64.wrap (1 + a) = n := (IntWalk.i64_in _ (by omega)).trans hn
  obtain ⟨d, hd⟩ : ∃ d, many n p = d := ⟨_, rfl⟩
  obtain ⟨g1, g2, g3, g4⟩ := many_facts (n := n) (b := p) (by omega) (by omega)
  have m1 := many_add (n := n) (p := p) (by omega) (by omega)
  have m2 := many_le (n := n) (p := p) (by omega) (by omega)
  have m3 : allOf n p = d + 1 := by
    unfold allOf
    rw [if_neg (by omega), hd]
  obtain ⟨d2, hd2⟩ : ∃ d, many (n + 1) p = d := ⟨_, rfl⟩
  obtain ⟨k1, k2, k3, k4⟩ := many_facts (n := n + 1) (b := p) (by omega) (by omega)
  rw [hd] at g1 g2 g3 g4 m1 m2
  rw [hd2] at m2 k1 k2
  have HD := Lib.hid (fun v => data_any n p v (by omega))
  have HDP := Lib.hid (fun v => data_any (n + p) p v (by omega))
  have HD1 := Lib.hid (fun v => data_any (n + 1) p v (by omega))
  have HA := Lib.hid (fun v => all_any n p v (by omega))
  rw [hd] at HD
  rw [m1] at HDP
  rw [hd2] at HD1
  rw [m3] at HA
  obtain ⟨dp, hdp⟩ : ∃ x, d * p = x := ⟨_, rfl⟩
  rw [hdp] at g3 g4
  have dg : decide (d ≤ d2) = true := decide_eq_true m2
  have dn : decide (n ≤ dp) = true := decide_eq_true g3
  have hwm : IntKind.i64.wrap (d * p) = dp := (IntWalk.i64_in _ (by omega)).trans hdp
  clear hd hd2 m1 m3 k3 k4
  go_enter Try.func6, Try.ntmps6
  go_wp2_with fail
  refine (awake16_any _).mono ?_
  rintro e w0 ⟨rfl, h0⟩
  have B0 := Lib.hid h0
  clear h0
  go_wp2_with fail
  refine (HDP.out _).mono ?_
  rintro e w1 ⟨rfl, f1⟩
  have B1 := Lib.hid (belowT B0.out f1.below)
  clear f1
  go_wp2_with fail
  refine (HD.out _).mono ?_
  rintro e w2 ⟨rfl, f2⟩
  have B2 := Lib.hid (belowT B1.out f2.below)
  clear f2
  go_wp2_with fail
  refine (HA.out _).mono ?_
  rintro e w3 ⟨rfl, f3⟩
  have B3 := Lib.hid (belowT B2.out f3.below)
  clear f3
  go_wp2_with fail
  refine (HD.out _).mono ?_
  rintro e w4 ⟨rfl, f4⟩
  have B4 := Lib.hid (belowT B3.out f4.below)
  clear f4
  go_wp2_with fail
  refine (HD1.out _).mono ?_
  rintro e w5 ⟨rfl, f5⟩
  have B5 := Lib.hid (belowT B4.out f5.below)
  clear f5
  go_wp2_with fail
  refine (HD.out _).mono ?_
  rintro e w6 ⟨rfl, f6⟩
  have B6 := Lib.hid (belowT B5.out f6.below)
  clear f6
  go_wp2_with fail
  refine (HD.out _).mono ?_
  rintro e w7 ⟨rfl, f7⟩
  have B7 := Lib.hid (belowT B6.out f7.below)
  clear f7
  go_wp2
  go_ret
  exact ⟨rfl, B7.out⟩

/-! ### The frame of the row -/
set_option maxRecDepth 100000 in
theorem lifted (os : Os) (started : os.Started) (H : Type) (enc : TypeId × Value → H) :
    ReturnsInHanded {} Try.checked os 6 .any (Rows.chainLessSpec.pre6 enc Try.prog Try.f6 Rows.chainLessRow.domain false) (Rows.chainLessSpec.post enc Try.prog Try.f6 false true false false) := by
  refine returnsInHanded_of_change (C := Try.checked) own started (by kernel_rfl) Try.func6
    (ChangeSpec.witness6 (enc := enc) (C := Try.checked) false ⟨#[], #[.int .u16 0, .int .u8 0], []⟩ 8 (by kernel_rfl) (by kernel_rfl) (by kernel_rfl) (by kernel_rfl)) ?_
  intro W base args ds gs before hval0 hW hcnd _
  have hval : ∀ (j : Nat) t v, Try.f6.params[j]? = some t → args[j]? = some v → Value.okWide Try.prog W .any base t v := hval0
  have hW' := hW
  obtain ⟨p, q, hA0, hV, rfl, hfz, hnd⟩ := hW
  have hA : DataW.TrodAll enc Try.prog W 0 (fun _ => true) true Try.f6.params.toList args.toList ds p := hA0
  rw [Try.params6] at hA hval
  obtain ⟨v0, vs0, d0, ds0, p0, q0, hargs, rfl, rfl, h0, r0⟩ := trodAll_cons hA
  obtain ⟨v1, vs1, d1, ds1, p1, q1, rfl, rfl, rfl, h1, r1⟩ := trodAll_cons r0
  obtain ⟨rfl, rfl, rfl⟩ := trodAll_nil r1
  obtain rfl : args = #[v0, v1] := by cases args; simp_all
  obtain ⟨rfl, rfl⟩ := trodVars_none hV
  obtain ⟨a, rfl, rfl, rfl, ha⟩ := open_int Try.underlying27 (hval 0 27 v0 rfl rfl) h0
  obtain ⟨b, rfl, rfl, rfl, hb⟩ := open_int Try.underlying5 (hval 1 5 v1 rfl rfl) h1
  clear hA0 hval0
  refine (walk a b W ha hb).mono fun e W' ⟨he, bel⟩ => ?_
  subst he
  exact ⟨_, rfl, _, _, _, [], _, [], hW', trodAll_mk1 (shut_bool Try.underlying4 _), (trodAll_cons_mk (shut_int Try.underlying27 ha) (trodAll_cons_mk (shut_int Try.underlying5 hb) trodAll_mk0)), rfl, bel.frame _, fun h => by cases h⟩

theorem over : Rows.chainLessRow.holds Try.pinned (OpenSpec.ofChange Rows.chainLessSpec) :=
  OpenClaim.holds_of_wide 6 Try.f6 rfl rfl rfl rfl rfl rfl rfl ⟨rfl, rfl, rfl, rfl, rfl⟩ rfl rfl rfl rfl rfl (by kernel_rfl) Try.func6 (by kernel_rfl)
    (of_decide_eq_true (by kernel_rfl)) (by unfold Func.isWrapper; first | (rw [if_pos (by decide +kernel)]; kernel_rfl) | (rw [if_neg (by decide +kernel)]; exact ⟨rfl, rfl⟩))
    (fun os started H enc _ => lifted os started H enc)

theorem proved : Rows.ChainLessSaid := over
#print axioms proved
end Go.Proofs.Ytmamihlilgmnaaa.chainLess
