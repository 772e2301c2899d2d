/-
  ArenaNew: whatever two ints come in, the law returns true, and the input reads behind the call as it did.
-/
import Derived.Test.YtnopeifgcpibaaaRows
import Derived.WalkKit
import Derived.ProofKit
import Derived.OpenShut
import Derived.Test.YtnopeifgcpibaaaArenaAwake
import Derived.Test.YtnopeifgcpibaaaArenaRefLay
import Derived.Test.YtnopeifgcpibaaaQuietImp
import Derived.ShutString
import Derived.ChangeOld
import Derived.Below
namespace Go.Proofs.Ytnopeifgcpibaaa.arenaNew
open Go.ChangeShapes Go.WideShapes Go.ChangeAt Go.RowKit
open Go.ChangeMaps (open_string shut_string)
set_option linter.unusedVariables false

theorem own : ownKnob Try.prog.godebug = none := by kernel_rfl
theorem laidOut : laidOutB Try.prog = true := by kernel_rfl

/-! ### The walk -/
theorem walk (a : Int) (b : Int) (w : World) (ha : (Lit.int .i64 a).wf = true) (hb : (Lit.int .i64 b).wf = true) :
    Calls Try.prog 4 #[.int .i64 a, .int .i64 b] w fun e w' => e = .returned (.bool true) ∧ Below w.heap.size w w' := by
  have fa := wf_i64 ha
  have fb := wf_i64 hb
  clear ha hb
  go_enter Try.func4, Try.ntmps4
  go_wp2_with fail
  refine (awake06_any w).mono ?_
  rintro e w0 ⟨rfl, h0⟩
  by_cases hm : may a b
  · obtain ⟨p, rfl⟩ : ∃ p : Nat, a = (p : Int) := ⟨a.toNat, by have := hm.1; omega⟩
    obtain ⟨z, rfl⟩ : ∃ z : Nat, b = (z : Int) := ⟨b.toNat, by have := hm.2.2.1; omega⟩
    have hp := may_prod hm
    have HM := Lib.hid hm
    have H0 := Lib.hid h0
    clear hm h0
    go_wp2_with fail
    refine (refNew_ok p z w0 HM.out).mono ?_
    rintro e w1 ⟨g, rfl, r1, b1, hg⟩
    have B1 := Lib.hid (belowT (belowT H0.out b1) (below1 w1 (.cells #[.slice (some ⟨g, 0, none⟩) (p * z) (p * z), .int .i64 0] 33)))
    have X1 := RB.new w1 (some ⟨g, 0, none⟩) (p * z) (p * z) 0
    have HN := Lib.hid (arenaNew_ok p z none 0 0 (w1.alloc (.cells #[.slice (some ⟨g, 0, none⟩) (p * z) (p * z), .int .i64 0] 33)) HM.out (Mo.nobody _ _ _) (fun q e => by cases e))
    clear r1 b1 hg
    obtain ⟨n, hn⟩ : ∃ n, n = p * z := ⟨_, rfl⟩
    have hc : (p : Int) * (z : Int) = (n : Int) := by rw [hn]; simp
    rw [← hn] at hp X1 HN B1 ⊢
    have hw : IntKind.i64.wrap ((p : Int) * (z : Int)) = (n : Int) := by rw [hc]; exact IntWalk.i64_in _ (by omega)
    clear hn hc
    go_wp2_with fail
    refine HN.out.mono ?_
    rintro e w3 ⟨f, q, rfl, a3, b3, _, _⟩
    obtain ⟨p0, p1, p2, p3⟩ := X1.below b3
    have B3 := Lib.hid (belowT B1.out b3)
    have HL : Hid (∀ k, Calls Try.prog 17 #[.pointer (some ⟨f, 0, none⟩)] (w3.drewN k) (R1 (n : Int) (w3.drewN k))) := Lib.hid (fun k => by
      have := len_any (a3.drewN k)
      rwa [List.length_replicate] at this)
    clear X1 a3 b3 HN
    go_wp2_with fail
    go_quiet ((go_at_call 17; exact quiet1 (HL.out _)))
    go_wp2
    try go_ret
    exact ⟨rfl, by first | exact B3.out | exact belowN B3.out _⟩
  · have HM := Lib.hid hm
    have H0 := Lib.hid h0
    clear hm h0
    go_wp2_with fail
    refine (refNew_bad a b w0 HM.out).mono ?_
    rintro e w1 ⟨rfl, b1⟩
    have B1 := Lib.hid (belowT (belowT H0.out b1) (below1 w1 (.cells #[.slice none 0 0, .int .i64 0] 33)))
    clear b1
    go_wp2_with fail
    refine (arenaNew_bad a b none _ HM.out).mono ?_
    rintro e w3 ⟨rfl, rfl⟩
    go_wp2
    go_ret
    exact ⟨rfl, B1.out⟩

/-! ### The frame of the row -/
set_option maxRecDepth 100000 in
theorem lifted (os : Os) (started : os.Started) (H : Type) (enc : TypeId × Value → H) :
    ReturnsInHanded {} Try.checked os 4 .any (Rows.arenaNewSpec.pre6 enc Try.prog Try.f4 Rows.arenaNewRow.domain false) (Rows.arenaNewSpec.post enc Try.prog Try.f4 false true false false) := by
  refine returnsInHanded_of_change (C := Try.checked) own started (by kernel_rfl) Try.func4
    (ChangeSpec.witness6 (enc := enc) (C := Try.checked) false ⟨#[], #[.int .i64 0, .int .i64 0], []⟩ 8 (by kernel_rfl) (by kernel_rfl) (by kernel_rfl) (by kernel_rfl)) ?_
  intro W base args ds gs before hval0 hW hcnd _
  have hval : ∀ (j : Nat) t v, Try.f4.params[j]? = some t → args[j]? = some v → Value.okWide Try.prog W .any base t v := hval0
  have hW' := hW
  obtain ⟨p, q, hA0, hV, rfl, hfz, hnd⟩ := hW
  have hA : DataW.TrodAll enc Try.prog W 0 (fun _ => true) true Try.f4.params.toList args.toList ds p := hA0
  rw [Try.params4] at hA hval
  obtain ⟨v0, vs0, d0, ds0, p0, q0, hargs, rfl, rfl, h0, r0⟩ := trodAll_cons hA
  obtain ⟨v1, vs1, d1, ds1, p1, q1, rfl, rfl, rfl, h1, r1⟩ := trodAll_cons r0
  obtain ⟨rfl, rfl, rfl⟩ := trodAll_nil r1
  obtain rfl : args = #[v0, v1] := by cases args; simp_all
  obtain ⟨rfl, rfl⟩ := trodVars_none hV
  obtain ⟨a, rfl, rfl, rfl, ha⟩ := open_int Try.underlying3 (hval 0 3 v0 rfl rfl) h0
  obtain ⟨b, rfl, rfl, rfl, hb⟩ := open_int Try.underlying3 (hval 1 3 v1 rfl rfl) h1
  clear hA0 hval0
  refine (walk a b W ha hb).mono fun e W' ⟨he, bel⟩ => ?_
  subst he
  exact ⟨_, rfl, _, _, _, [], _, [], hW', trodAll_mk1 (shut_bool Try.underlying4 _), (trodAll_cons_mk (shut_int Try.underlying3 ha) (trodAll_cons_mk (shut_int Try.underlying3 hb) trodAll_mk0)), rfl, bel.frame _, fun h => by cases h⟩

theorem over : Rows.arenaNewRow.holds Try.pinned (OpenSpec.ofChange Rows.arenaNewSpec) :=
  OpenClaim.holds_of_wide 4 Try.f4 rfl rfl rfl rfl rfl rfl rfl ⟨rfl, rfl, rfl, rfl, rfl⟩ rfl rfl rfl rfl rfl (by kernel_rfl) Try.func4 (by kernel_rfl)
    (of_decide_eq_true (by kernel_rfl)) (by unfold Func.isWrapper; first | (rw [if_pos (by decide +kernel)]; kernel_rfl) | (rw [if_neg (by decide +kernel)]; exact ⟨rfl, rfl⟩))
    (fun os started H enc _ => lifted os started H enc)

theorem proved : Rows.ArenaNewSaid := over
#print axioms proved
end Go.Proofs.Ytnopeifgcpibaaa.arenaNew
