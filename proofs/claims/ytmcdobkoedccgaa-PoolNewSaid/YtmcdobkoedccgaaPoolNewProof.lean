/-
  PoolNew: so many pages, or what forbids them; nobody has any.
-/
import Derived.Test.YtmcdobkoedccgaaRows
import Derived.WalkKit
import Derived.ProofKit
import Derived.OpenShut
import Derived.Test.YtmcdobkoedccgaaPoolAwake
import Derived.Test.YtmcdobkoedccgaaPoolRefNew
import Derived.ShutString
import Derived.ChangeOld
import Derived.Below
namespace Go.Proofs.Ytmcdobkoedccgaa.poolNew
open Go.ChangeShapes Go.WideShapes Go.ChangeAt Go.RowKit
open Go.ChangeMaps (open_string shut_string)
set_option linter.unusedVariables false

theorem own : ownKnob Try.prog.godebug = none := by kernel_rfl
theorem laidOut : laidOutB Try.prog = true := by kernel_rfl

theorem own_freed (K : Nat) (i : Int) : ownOut (freed K) i = -1 := by
  unfold ownOut
  split
  · rename_i h
    obtain ⟨k, rfl, hk⟩ := inB_nat h
    have hk' : k < K := by simpa [freed] using hk
    rw [Int.toNat_natCast]
    unfold freed
    rw [List.getElem?_replicate, if_pos hk']
    rfl
  · rfl

/-! ### The walk -/
set_option maxRecDepth 20000 in
set_option maxHeartbeats 1000000 in
theorem walk (pages : Int) (w : World) (hpages : (Lit.int .i64 pages).wf = true) :
    Calls Try.prog 4 #[.int .i64 pages] w fun e w' => e = .returned (.bool true) ∧ Below w.heap.size w w' := by
  have hp64 := wf_i64 hpages
  clear hpages
  by_cases hm : 1 ≤ pages ∧ pages ≤ 1024
  · obtain ⟨K, rfl⟩ : ∃ K : Nat, pages = (K : Int) := ⟨pages.toNat, by omega⟩
    have hw : IntKind.i64.wrap ((K : Int) - 1) = (K : Int) - 1 := IntWalk.i64_in _ (by omega)
    have h1 : 1 ≤ K := by omega
    have h2 : K ≤ 1024 := by omega
    have eKK : ((K : Int) == (K : Int)) = true := by simp
    clear hm
    go_enter Try.func4, Try.ntmps4
    go_wp2_with fail
    refine (awake08_any w).mono ?_
    rintro e w0 ⟨rfl, h0⟩
    have H0 := Lib.hid h0
    clear h0
    go_wp2_with fail
    refine (new_ok K w0 h1 h2).mono ?_
    rintro e w1 ⟨p, a, rfl, m1, b1, _, _⟩
    have B1 := Lib.hid (belowT H0.out b1)
    have M1 := Lib.hid m1
    clear m1 b1
    go_wp2_with fail
    refine (refNew_ok K w1 h1 h2).mono ?_
    rintro e w2 ⟨oa, oc, fa, fc, Q, rfl, r2, b2, _⟩
    have M2 := Lib.hid (M1.out.below b2)
    have B2 := Lib.hid (belowT B1.out b2)
    clear r2 b2
    have b3 := below1 w2 (.cells #[.slice oa K oc, .slice fa K fc] 27)
    have M3 := Lib.hid (M2.out.below b3)
    have B3 := Lib.hid (belowT B2.out b3)
    clear b3
    have K1 := Lib.hid (free_any M3.out)
    rw [turns_len] at K1
    have K2 := Lib.hid (held_any M3.out)
    rw [turns_len, Int.sub_self] at K2
    have K3 := Lib.hid (fun m (i : Int) => owner_any (M3.out.below (belowN (Below.refl _ _) m)) i)
    simp only [own_freed] at K3
    go_wp2_with fail
    refine K1.out.mono ?_
    rintro e w4 ⟨rfl, rfl⟩
    go_wp2_with fail
    refine K2.out.mono ?_
    rintro e w4 ⟨rfl, m, rfl⟩
    go_wp2_with fail
    refine (K3.out m 0).mono ?_
    rintro e w4 ⟨rfl, rfl⟩
    go_wp2_with fail
    refine (K3.out m ((K : Int) - 1)).mono ?_
    rintro e w4 ⟨rfl, rfl⟩
    go_wp2
    go_ret
    exact ⟨rfl, belowN B3.out m⟩
  · have hmb : mayB pages = false := by simp [mayB]; omega
    have HB := Lib.hid hmb
    have HM := Lib.hid hm
    clear hmb hm
    go_enter Try.func4, Try.ntmps4
    go_wp2_with fail
    refine (awake08_any w).mono ?_
    rintro e w0 ⟨rfl, h0⟩
    have H0 := Lib.hid h0
    clear h0
    go_wp2_with fail
    refine (new_bad pages w0 HB.out).mono ?_
    rintro e w1 ⟨rfl, rfl⟩
    go_wp2_with fail
    refine (refNew_bad pages w0 HM.out).mono ?_
    rintro e w2 ⟨rfl, b2⟩
    have B2 := Lib.hid (belowT H0.out b2)
    clear b2
    go_wp2
    go_ret
    exact ⟨rfl, belowT B2.out (below1 _ _)⟩

/-! ### The frame of the row -/
set_option maxRecDepth 100000 in
theorem lifted (os : Os) (started : os.Started) (H : Type) (enc : TypeId × Value → H) :
    ReturnsInHanded {} Try.checked os 4 .any (Rows.poolNewSpec.pre6 enc Try.prog Try.f4 Rows.poolNewRow.domain false) (Rows.poolNewSpec.post enc Try.prog Try.f4 false true false false) := by
  refine returnsInHanded_of_change (C := Try.checked) own started (by kernel_rfl) Try.func4
    (ChangeSpec.witness6 (enc := enc) (C := Try.checked) false ⟨#[], #[.int .i64 0], []⟩ 8 (by kernel_rfl) (by kernel_rfl) (by kernel_rfl) (by kernel_rfl)) ?_
  intro W base args ds gs before hval0 hW hcnd _
  have hval : ∀ (j : Nat) t v, Try.f4.params[j]? = some t → args[j]? = some v → Value.okWide Try.prog W .any base t v := hval0
  have hW' := hW
  obtain ⟨p, q, hA0, hV, rfl, hfz, hnd⟩ := hW
  have hA : DataW.TrodAll enc Try.prog W 0 (fun _ => true) true Try.f4.params.toList args.toList ds p := hA0
  rw [Try.params4] at hA hval
  obtain ⟨v0, vs0, d0, ds0, p0, q0, hargs, rfl, rfl, h0, r0⟩ := trodAll_cons hA
  obtain ⟨rfl, rfl, rfl⟩ := trodAll_nil r0
  obtain rfl : args = #[v0] := by cases args; simp_all
  obtain ⟨rfl, rfl⟩ := trodVars_none hV
  obtain ⟨pages, rfl, rfl, rfl, hpages⟩ := open_int Try.underlying3 (hval 0 3 v0 rfl rfl) h0
  clear hA0 hval0
  refine (walk pages W hpages).mono fun e W' ⟨he, bel⟩ => ?_
  subst he
  exact ⟨_, rfl, _, _, _, [], _, [], hW', trodAll_mk1 (shut_bool Try.underlying4 _), (trodAll_cons_mk (shut_int Try.underlying3 hpages) trodAll_mk0), rfl, bel.frame _, fun h => by cases h⟩

theorem over : Rows.poolNewRow.holds Try.pinned (OpenSpec.ofChange Rows.poolNewSpec) :=
  OpenClaim.holds_of_wide 4 Try.f4 rfl rfl rfl rfl rfl rfl rfl ⟨rfl, rfl, rfl, rfl, rfl⟩ rfl rfl rfl rfl rfl (by kernel_rfl) Try.func4 (by kernel_rfl)
    (of_decide_eq_true (by kernel_rfl)) (by unfold Func.isWrapper; first | (rw [if_pos (by decide +kernel)]; kernel_rfl) | (rw [if_neg (by decide +kernel)]; exact ⟨rfl, rfl⟩))
    (fun os started H enc _ => lifted os started H enc)

theorem proved : Rows.PoolNewSaid := over
#print axioms proved
end Go.Proofs.Ytmcdobkoedccgaa.poolNew
