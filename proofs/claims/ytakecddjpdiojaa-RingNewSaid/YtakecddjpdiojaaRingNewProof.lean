/-
  RingNew: whatever two numbers come in, the law returns true, and the input reads behind the call as it did.
-/
import Derived.Test.YtakecddjpdiojaaRows
import Derived.WalkKit
import Derived.ProofKit
import Derived.OpenShut
import Derived.Test.YtakecddjpdiojaaRingAwake
import Derived.Test.YtakecddjpdiojaaRingRef
import Derived.ShutString
import Derived.ChangeOld
import Derived.Below
namespace Go.Proofs.Ytakecddjpdiojaa.ringNew
open Go.ChangeShapes Go.WideShapes Go.ChangeAt Go.RowKit
open Go.ChangeMaps (open_string shut_string)
set_option linter.unusedVariables false

theorem own : ownKnob Try.prog.godebug = none := by kernel_rfl
theorem laidOut : laidOutB Try.prog = true := by kernel_rfl

theorem pushOut_arg {N : Nat} {L : List (List Int)} {i n : Int} (h : ¬ (inB L.length i = true ∧ inB N n = true)) : pushOut N L i n = (L, 1) := by
  unfold pushOut
  rw [if_neg h]

/-! ### The walk -/
theorem walk (nodes : Int) (lists : Int) (w : World) (hnodes : (Lit.int .i64 nodes).wf = true) (hlists : (Lit.int .i64 lists).wf = true) :
    Calls Try.prog 4 #[.int .i64 nodes, .int .i64 lists] w fun e w' => e = .returned (.bool true) ∧ Below w.heap.size w w' := by
  cases hq : mayB nodes lists with
  | false =>
    go_enter Try.func4, Try.ntmps4
    go_wp2_with fail
    refine (awake07_any w).mono ?_
    rintro e w0 ⟨rfl, h0⟩
    have H0 := Lib.hid h0
    have HQ := Lib.hid hq
    clear h0 hq
    go_wp2_with fail
    refine (new_bad nodes lists w0 HQ.out).mono ?_
    rintro e w1 ⟨rfl, rfl⟩
    go_wp2_with fail
    refine (refNew_bad nodes lists w0 HQ.out).mono ?_
    rintro e w1 ⟨rfl, h1⟩
    have B1 := Lib.hid (belowT H0.out h1)
    clear h1
    go_wp2
    go_ret
    exact ⟨rfl, belowT B1.out (below1 w1 _)⟩
  | true =>
    obtain ⟨N, hN⟩ : ∃ N : Nat, nodes = (N : Int) := ⟨nodes.toNat, by simp [mayB] at hq; omega⟩
    obtain ⟨M, hM⟩ : ∃ M : Nat, lists = (M : Int) := ⟨lists.toNat, by simp [mayB] at hq; omega⟩
    subst hN hM
    simp [mayB] at hq
    have HB : Hid (1 ≤ N ∧ N ≤ 4096 ∧ 1 ≤ M ∧ M ≤ 64) := Lib.hid (by omega)
    have hw1 : IntKind.i64.wrap ((N : Int) - 1) = ((N - 1 : Nat) : Int) := by rw [IntWalk.i64_in _ (by omega)]; omega
    have hw2 : IntKind.i64.wrap ((M : Int) - 1) = ((M - 1 : Nat) : Int) := by rw [IntWalk.i64_in _ (by omega)]; omega
    clear hq hnodes hlists
    go_enter Try.func4, Try.ntmps4
    go_wp2_with fail
    refine (awake07_any w).mono ?_
    rintro e w0 ⟨rfl, h0⟩
    have H0 := Lib.hid h0
    clear h0
    go_wp2_with fail
    refine (new_ok N M w0 HB.out.1 HB.out.2.1 HB.out.2.2.1 HB.out.2.2.2).mono ?_
    rintro e w1 ⟨p, a, b, rfl, r1, b1, hp, ha, hb⟩
    have B1 := Lib.hid (belowT H0.out b1)
    have Q1 := Lib.hid r1
    have HA := Lib.hid (Nat.le_trans H0.out.size ha)
    have HBB := Lib.hid (Nat.le_trans H0.out.size hb)
    clear r1 b1 hp ha hb
    go_wp2_with fail
    refine (refNew_ok N M w1 HB.out.1 HB.out.2.1 HB.out.2.2.1 HB.out.2.2.2).mono ?_
    rintro e w2 ⟨g, rfl, l2, b2, hg⟩
    have B3 := Lib.hid ((belowT B1.out b2).trans ((below1 w2 (.cells #[.slice (some ⟨g, 0, none⟩) M M, .int .i64 N] 30)).mono (Nat.le_trans B1.out.size b2.size)))
    have R3 := Lib.hid ((Q1.out.below b2).below (below1 w2 (.cells #[.slice (some ⟨g, 0, none⟩) M M, .int .i64 N] 30)))
    clear l2 b2 hg
    go_wp2_with fail
    generalize w2.alloc (.cells #[.slice (some ⟨g, 0, none⟩) M M, .int .i64 N] 30) = w3 at B3 R3 ⊢
    have hlen : (List.replicate M ([] : List Int)).length = M := by simp
    have K1 : Hid (Calls Try.prog 14 #[.pointer (some ⟨p, 0, none⟩), .int .i64 ((M - 1 : Nat) : Int)] w3 (R1 0 w3)) := Lib.hid (by
      have := rgLen R3.out ((M - 1 : Nat) : Int)
      rwa [show lenI (List.replicate M []) ((M - 1 : Nat) : Int) = 0 by unfold lenI; rw [ln_blank]; simp] at this)
    have K2 : Hid (Calls Try.prog 15 #[.pointer (some ⟨p, 0, none⟩), .int .i64 ((N - 1 : Nat) : Int)] w3 (R1 (-1) w3)) := Lib.hid (by
      have := rgOf R3.out ((N - 1 : Nat) : Int)
      rwa [of_no (at_blank _ · · _)] at this)
    have K3 : Hid (Calls Try.prog 16 #[.pointer (some ⟨p, 0, none⟩), .int .i64 ((M - 1 : Nat) : Int), .int .i64 ((N - 1 : Nat) : Int)] w3 fun e w' => e = .returned (.int .i64 0) ∧ Rg w' p a b N M 1 (pushL (List.replicate M []) (M - 1) ((N - 1 : Nat) : Int)) ∧ But (Own a b) w3 w') := Lib.hid (by
      have := rgPush R3.out (by omega) ((M - 1 : Nat) : Int) ((N - 1 : Nat) : Int)
      rwa [pushOut_ok R3.out.wf (i := M - 1) (n := N - 1) (by have := HB.out; omega) (by have := HB.out; omega) (of_no (at_blank _ · · _))] at this)
    clear hlen
    refine K1.out.mono ?_
    rintro e w4 ⟨rfl, rfl⟩
    go_wp2_with fail
    refine K2.out.mono ?_
    rintro e w4 ⟨rfl, rfl⟩
    go_wp2_with fail
    refine K3.out.mono ?_
    rintro e w4 ⟨rfl, r4, b4⟩
    have B4 := Lib.hid b4
    have K4 : Hid (Calls Try.prog 16 #[.pointer (some ⟨p, 0, none⟩), .int .i64 (M : Int), .int .i64 0] w4 fun e w' => e = .returned (.int .i64 1) ∧ Rg w' p a b N M 2 (pushL (List.replicate M []) (M - 1) ((N - 1 : Nat) : Int)) ∧ But (Own a b) w4 w') := Lib.hid (by
      have := rgPush r4 (by omega) (M : Int) 0
      rwa [pushOut_arg (fun h => by have := h.1; rw [r4.wf.len] at this; simp [inB] at this)] at this)
    clear r4 b4
    go_wp2_with fail
    refine K4.out.mono ?_
    rintro e w5 ⟨rfl, r5, b5⟩
    have B5 := Lib.hid b5
    have K5 : Hid (Calls Try.prog 16 #[.pointer (some ⟨p, 0, none⟩), .int .i64 0, .int .i64 (N : Int)] w5 fun e w' => e = .returned (.int .i64 1) ∧ Rg w' p a b N M 3 (pushL (List.replicate M []) (M - 1) ((N - 1 : Nat) : Int)) ∧ But (Own a b) w5 w') := Lib.hid (by
      have := rgPush r5 (by omega) 0 (N : Int)
      rwa [pushOut_arg (fun h => by have := h.2; simp [inB] at this)] at this)
    clear r5 b5
    go_wp2_with fail
    refine K5.out.mono ?_
    rintro e w6 ⟨rfl, r6, b6⟩
    have B6 := Lib.hid b6
    clear r6 b6
    go_wp2
    go_ret
    exact ⟨rfl, B3.out.trans (Rg.own ((B4.out.trans B5.out).trans B6.out) B3.out.size HA.out HBB.out)⟩

/-! ### The frame of the row -/
set_option maxRecDepth 100000 in
theorem lifted (os : Os) (started : os.Started) (H : Type) (enc : TypeId × Value → H) :
    ReturnsInHanded {} Try.checked os 4 .any (Rows.ringNewSpec.pre6 enc Try.prog Try.f4 Rows.ringNewRow.domain false) (Rows.ringNewSpec.post enc Try.prog Try.f4 false true false false) := by
  refine returnsInHanded_of_change (C := Try.checked) own started (by kernel_rfl) Try.func4
    (ChangeSpec.witness6 (enc := enc) (C := Try.checked) false ⟨#[], #[.int .i64 0, .int .i64 0], []⟩ 8 (by kernel_rfl) (by kernel_rfl) (by kernel_rfl) (by kernel_rfl)) ?_
  intro W base args ds gs before hval0 hW hcnd _
  have hval : ∀ (j : Nat) t v, Try.f4.params[j]? = some t → args[j]? = some v → Value.okWide Try.prog W .any base t v := hval0
  have hW' := hW
  obtain ⟨p, q, hA0, hV, rfl, hfz, hnd⟩ := hW
  have hA : DataW.TrodAll enc Try.prog W 0 (fun _ => true) true Try.f4.params.toList args.toList ds p := hA0
  rw [Try.params4] at hA hval
  obtain ⟨v0, vs0, d0, ds0, p0, q0, hargs, rfl, rfl, h0, r0⟩ := trodAll_cons hA
  obtain ⟨v1, vs1, d1, ds1, p1, q1, rfl, rfl, rfl, h1, r1⟩ := trodAll_cons r0
  obtain ⟨rfl, rfl, rfl⟩ := trodAll_nil r1
  obtain rfl : args = #[v0, v1] := by cases args; simp_all
  obtain ⟨rfl, rfl⟩ := trodVars_none hV
  obtain ⟨nodes, rfl, rfl, rfl, hnodes⟩ := open_int Try.underlying3 (hval 0 3 v0 rfl rfl) h0
  obtain ⟨lists, rfl, rfl, rfl, hlists⟩ := open_int Try.underlying3 (hval 1 3 v1 rfl rfl) h1
  clear hA0 hval0
  refine (walk nodes lists W hnodes hlists).mono fun e W' ⟨he, bel⟩ => ?_
  subst he
  exact ⟨_, rfl, _, _, _, [], _, [], hW', trodAll_mk1 (shut_bool Try.underlying4 _), (trodAll_cons_mk (shut_int Try.underlying3 hnodes) (trodAll_cons_mk (shut_int Try.underlying3 hlists) trodAll_mk0)), rfl, bel.frame _, fun h => by cases h⟩

theorem over : Rows.ringNewRow.holds Try.pinned (OpenSpec.ofChange Rows.ringNewSpec) :=
  OpenClaim.holds_of_wide 4 Try.f4 rfl rfl rfl rfl rfl rfl rfl ⟨rfl, rfl, rfl, rfl, rfl⟩ rfl rfl rfl rfl rfl (by kernel_rfl) Try.func4 (by kernel_rfl)
    (of_decide_eq_true (by kernel_rfl)) (by unfold Func.isWrapper; first | (rw [if_pos (by decide +kernel)]; kernel_rfl) | (rw [if_neg (by decide +kernel)]; exact ⟨rfl, rfl⟩))
    (fun os started H enc _ => lifted os started H enc)

theorem proved : Rows.RingNewSaid := over
#print axioms proved
end Go.Proofs.Ytakecddjpdiojaa.ringNew
