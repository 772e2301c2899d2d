/-
  ChainCuts: whatever three ints come in, the law returns true, and the input reads behind the call as it did.
-/
import Derived.Test.YtmamihlilgmnaaaRows
import Derived.WalkKit
import Derived.ProofKit
import Derived.OpenShut
import Derived.Test.YtmamihlilgmnaaaChainAwake
import Derived.Test.YtmamihlilgmnaaaChainRef
import Derived.Test.YtmamihlilgmnaaaChainSame
import Derived.Test.YtmamihlilgmnaaaWf
import Derived.ShutString
import Derived.ChangeOld
import Derived.Below
namespace Go.Proofs.Ytmamihlilgmnaaa.chainCuts
open Go.ChangeShapes Go.WideShapes Go.ChangeAt Go.RowKit
open Go.ChangeMaps (open_string shut_string)
set_option linter.unusedVariables false

theorem own : ownKnob Try.prog.godebug = none := by kernel_rfl
theorem laidOut : laidOutB Try.prog = true := by kernel_rfl

/-! ### The walk -/
set_option maxRecDepth 20000 in
theorem walk (a : Int) (n : Int) (p : Int) (w : World) (ha : (Lit.int .i64 a).wf = true) (hn : (Lit.int .i64 n).wf = true) (hp : (Lit.int .i64 p).wf = true) :
    Calls Try.prog 3 #[.int .i64 a, .int .i64 n, .int .i64 p] w fun e w' => e = .returned (.bool true) ∧ Below w.heap.size w w' := by
  have ha2 := wf_int ha
  have hn2 := wf_int hn
  have hp2 := wf_int hp
  clear ha hn hp
  have HC := Lib.hid (fun v => cut_any a n p v ha2 hn2 hp2.2)
  have HR := Lib.hid (fun v => refCut_any a n p v ha2 hn2 hp2.2)
  generalize cutI a n p = us at HC HR
  by_cases h0 : 0 < p ∧ 0 < n
  · obtain ⟨q1, q2⟩ := h0
    have dp : decide (0 < p) = true := decide_eq_true q1
    have dn : decide (0 < n) = true := decide_eq_true q2
    obtain ⟨z, hz⟩ : ∃ z, n / p = z := ⟨_, rfl⟩
    have hz1 : n.tdiv p = z := by rw [Int.tdiv_eq_ediv_of_nonneg (by omega)]; exact hz
    have hzn : 0 ≤ z ∧ z ≤ n := by
      rw [← hz]
      exact ⟨Int.ediv_nonneg (by omega) (by omega), Int.ediv_le_self p (by omega)⟩
    have hp0 : ¬ p = 0 := by omega
    have hwz : IntKind.i64.wrap z = z := IntWalk.i64_in _ (by omega)
    by_cases hk : 200 < z
    · have dz : decide (200 < z) = true := decide_eq_true hk
      go_enter Try.func3, Try.ntmps3
      go_wp2_with fail
      refine (awake16_any _).mono ?_
      rintro e w0 ⟨rfl, b0⟩
      have B0 := Lib.hid b0
      clear b0
      go_wp2
      go_ret
      exact ⟨rfl, B0.out⟩
    · have dz : decide (200 < z) = false := decide_eq_false hk
      go_enter Try.func3, Try.ntmps3
      go_wp2_with fail
      refine (awake16_any _).mono ?_
      rintro e w0 ⟨rfl, b0⟩
      have B0 := Lib.hid b0
      clear b0
      go_wp2_with fail
      refine (HC.out _).mono ?_
      rintro e w1 ⟨a1, c1, rfl, s1, b1⟩
      have B1 := Lib.hid (belowT B0.out b1)
      have S1 := Lib.hid s1
      clear b1 s1
      go_wp2_with fail
      refine (HR.out _).mono ?_
      rintro e w2 ⟨a2, c2, rfl, s2, b2⟩
      have HS := Lib.hid (same16_any a1 a2 us.length c1 c2 us w2 (S1.out.on b2) s2)
      have B2 := Lib.hid (belowT B1.out b2)
      clear b2 s2
      go_wp2_with fail
      refine HS.out.mono ?_
      rintro e w3 ⟨rfl, b3⟩
      have B3 := Lib.hid (belowT B2.out b3)
      clear b3
      go_wp2
      go_ret
      exact ⟨rfl, B3.out⟩
  · have hd : decide (0 < p) = false ∨ decide (0 < p) = true ∧ decide (0 < n) = false := by
      by_cases q : 0 < p
      · exact .inr ⟨decide_eq_true q, decide_eq_false (fun r => h0 ⟨q, r⟩)⟩
      · exact .inl (decide_eq_false q)
    clear h0
    rcases hd with d1 | ⟨d1, d2⟩
    all_goals
      go_enter Try.func3, Try.ntmps3
      go_wp2_with fail
      refine (awake16_any _).mono ?_
      rintro e w0 ⟨rfl, b0⟩
      have B0 := Lib.hid b0
      clear b0
      go_wp2_with fail
      refine (HC.out _).mono ?_
      rintro e w1 ⟨a1, c1, rfl, s1, b1⟩
      have B1 := Lib.hid (belowT B0.out b1)
      have S1 := Lib.hid s1
      clear b1 s1
      go_wp2_with fail
      refine (HR.out _).mono ?_
      rintro e w2 ⟨a2, c2, rfl, s2, b2⟩
      have HS := Lib.hid (same16_any a1 a2 us.length c1 c2 us w2 (S1.out.on b2) s2)
      have B2 := Lib.hid (belowT B1.out b2)
      clear b2 s2
      go_wp2_with fail
      refine HS.out.mono ?_
      rintro e w3 ⟨rfl, b3⟩
      have B3 := Lib.hid (belowT B2.out b3)
      clear b3
      go_wp2
      go_ret
      exact ⟨rfl, B3.out⟩

/-! ### The frame of the row -/
set_option maxRecDepth 100000 in
theorem lifted (os : Os) (started : os.Started) (H : Type) (enc : TypeId × Value → H) :
    ReturnsInHanded {} Try.checked os 3 .any (Rows.chainCutsSpec.pre6 enc Try.prog Try.f3 Rows.chainCutsRow.domain false) (Rows.chainCutsSpec.post enc Try.prog Try.f3 false true false false) := by
  refine returnsInHanded_of_change (C := Try.checked) own started (by kernel_rfl) Try.func3
    (ChangeSpec.witness6 (enc := enc) (C := Try.checked) false ⟨#[], #[.int .i64 0, .int .i64 0, .int .i64 0], []⟩ 8 (by kernel_rfl) (by kernel_rfl) (by kernel_rfl) (by kernel_rfl)) ?_
  intro W base args ds gs before hval0 hW hcnd _
  have hval : ∀ (j : Nat) t v, Try.f3.params[j]? = some t → args[j]? = some v → Value.okWide Try.prog W .any base t v := hval0
  have hW' := hW
  obtain ⟨p, q, hA0, hV, rfl, hfz, hnd⟩ := hW
  have hA : DataW.TrodAll enc Try.prog W 0 (fun _ => true) true Try.f3.params.toList args.toList ds p := hA0
  rw [Try.params3] at hA hval
  obtain ⟨v0, vs0, d0, ds0, p0, q0, hargs, rfl, rfl, h0, r0⟩ := trodAll_cons hA
  obtain ⟨v1, vs1, d1, ds1, p1, q1, rfl, rfl, rfl, h1, r1⟩ := trodAll_cons r0
  obtain ⟨v2, vs2, d2, ds2, p2, q2, rfl, rfl, rfl, h2, r2⟩ := trodAll_cons r1
  obtain ⟨rfl, rfl, rfl⟩ := trodAll_nil r2
  obtain rfl : args = #[v0, v1, v2] := by cases args; simp_all
  obtain ⟨rfl, rfl⟩ := trodVars_none hV
  obtain ⟨a, rfl, rfl, rfl, ha⟩ := open_int Try.underlying3 (hval 0 3 v0 rfl rfl) h0
  obtain ⟨n, rfl, rfl, rfl, hn⟩ := open_int Try.underlying3 (hval 1 3 v1 rfl rfl) h1
  obtain ⟨p, rfl, rfl, rfl, hp⟩ := open_int Try.underlying3 (hval 2 3 v2 rfl rfl) h2
  clear hA0 hval0
  refine (walk a n p W ha hn hp).mono fun e W' ⟨he, bel⟩ => ?_
  subst he
  exact ⟨_, rfl, _, _, _, [], _, [], hW', trodAll_mk1 (shut_bool Try.underlying4 _), (trodAll_cons_mk (shut_int Try.underlying3 ha) (trodAll_cons_mk (shut_int Try.underlying3 hn) (trodAll_cons_mk (shut_int Try.underlying3 hp) trodAll_mk0))), rfl, bel.frame _, fun h => by cases h⟩

theorem over : Rows.chainCutsRow.holds Try.pinned (OpenSpec.ofChange Rows.chainCutsSpec) :=
  OpenClaim.holds_of_wide 3 Try.f3 rfl rfl rfl rfl rfl rfl rfl ⟨rfl, rfl, rfl, rfl, rfl⟩ rfl rfl rfl rfl rfl (by kernel_rfl) Try.func3 (by kernel_rfl)
    (of_decide_eq_true (by kernel_rfl)) (by unfold Func.isWrapper; first | (rw [if_pos (by decide +kernel)]; kernel_rfl) | (rw [if_neg (by decide +kernel)]; exact ⟨rfl, rfl⟩))
    (fun os started H enc _ => lifted os started H enc)

theorem proved : Rows.ChainCutsSaid := over
#print axioms proved
end Go.Proofs.Ytmamihlilgmnaaa.chainCuts
