/-
  IdentOne: a handle that is split is joined again, and is the same. The package's bounds stand as its text lays them (a tied card). No other condition.
-/
import Derived.Test.YtodombgmjnidiaaDoorRows
import Derived.Test.YtodombgmjnidiaaDoorCards
import Derived.Test.YtodombgmjnidiaaDoorTie
import Derived.Deep.DeepHandedRow
import Derived.SevenTiedAt
import Derived.WalkKit
import Derived.ProofKit
import Derived.OpenShut
import Derived.Test.YtodombgmjnidiaaDoorIdentAwake
import Derived.Test.YtodombgmjnidiaaDoorIdentLaid
import Derived.ShutString
import Derived.ChangeOld
import Derived.Below
namespace Go.Proofs.YtodombgmjnidiaaDoor.identOne
open Go.ChangeShapes Go.WideShapes Go.ChangeAt Go.RowKit
open Go.ChangeMaps (open_string shut_string)
set_option linter.unusedVariables false

theorem own : ownKnob Tryd.prog.godebug = none := by kernel_rfl
theorem laidOut : laidOutB Tryd.prog = true := by kernel_rfl

/-! ### The walk -/
theorem walk (h : Int) (w : World) (hL0 : Bd w) (hh : (Lit.int .i64 h).wf = true) :
    Calls Tryd.prog 6 #[.int .i64 h] w fun e w' => e = .returned (.bool true) ∧ Below w.heap.size w w' := by
  obtain ⟨l1, l2⟩ := bounds_i64 hh
  have H := Lib.hid hL0
  have A := Lib.hid (awake09_any w hL0)
  have S := Lib.hid (fun v (hv : Bd v) => split_any h v hv l1 l2)
  clear hL0 hh l1 l2
  go_enter Tryd.func6, Tryd.ntmps6
  go_wp2_with fail
  refine A.out.mono ?_
  rintro e w1 ⟨rfl, b1⟩
  have B1 := Lib.hid b1
  have H1 := Lib.hid (H.out.next b1)
  have J := S.out w1 H1.out
  clear b1 S
  cases hq : handB h with
  | false =>
    obtain ⟨e1, e2, e3⟩ := split_off hq
    rw [e1, e2, e3] at J
    have K := Lib.hid J
    clear J e1 e2 e3 hq
    go_wp2_with fail
    refine K.out.mono ?_
    rintro e w2 ⟨rfl, b2⟩
    have B2 := Lib.hid (belowT B1.out b2)
    clear b2 K
    go_wp2
    go_ret
    exact ⟨rfl, B2.out⟩
  | true =>
    obtain ⟨r1, r2⟩ := handB_in hq
    obtain ⟨e1, e2, e3⟩ := split_on hq
    rw [e1, e2, e3] at J
    obtain ⟨f1, f2⟩ := join_on (mayB_on (x := h % 4096) (y := h / 4096) (by omega))
    have f3 : 4096 * (h / 4096) + h % 4096 = h := by omega
    have Q := fun v (hv : Bd v) => join_any (h % 4096) (h / 4096) v hv
    rw [f1, f2, f3] at Q
    have HQ := Lib.hid Q
    have K := Lib.hid J
    clear J Q e1 e2 e3 hq f1 f2 f3
    generalize h % 4096 = s at *
    generalize h / 4096 = g at *
    go_wp2_with fail
    refine K.out.mono ?_
    rintro e w2 ⟨rfl, b2⟩
    have B2 := Lib.hid (belowT B1.out b2)
    have H2 := Lib.hid (H1.out.next b2)
    clear b2 K
    go_wp2_with fail
    refine (HQ.out w2 H2.out).mono ?_
    rintro e w3 ⟨rfl, b3⟩
    have B3 := Lib.hid (belowT B2.out b3)
    clear b3
    go_wp2
    go_ret
    exact ⟨by simp, B3.out⟩

/-! ### The frame of the row -/
theorem laid_met (os : Os) : laidMet Tryd.prog Rows.identOneRow.laid ((laidWorld os).forCall (fun _ _ => 0) ⟨#[], #[.int .i64 0], []⟩).memory :=
  laidMet_of_run' 8 (by kernel_rfl) (by kernel_rfl)
theorem reads (os : Os) {H : Type} (enc : TypeId × Value → H) : ∃ places, DataW.whole enc Tryd.prog ((laidWorld os).forCall (fun _ _ => 0) ⟨#[], #[.int .i64 0], []⟩).memory Tryd.f6.params.toList Rows.identOneSpec.vars false (#[.int .i64 0] : Array Value).toList 8 = some ([.lit (.int .i64 0)], [], places) :=
  ⟨[], by kernel_rfl⟩
set_option maxRecDepth 100000 in
theorem lifted (os : Os) (started : os.Started) (H : Type) (enc : TypeId × Value → H) (F : Stop.Interp) :
    ReturnsInHanded {} Tryd.checked os 6 .any ((OpenSpec.ofChange Rows.identOneSpec).preRow enc Tryd.prog Tryd.f6 Rows.identOneRow.domain false Rows.identOneRow.laid) (((OpenSpec.ofChange Rows.identOneSpec).at F).post enc Tryd.prog Tryd.f6 false true false false) := by
  obtain ⟨places, hx⟩ := reads os enc
  refine returnsInHanded_of_row (C := Tryd.checked) (s := OpenSpec.ofChange Rows.identOneSpec) own started (by kernel_rfl) Tryd.func6
    (witness_row_at (enc := enc) (C := Tryd.checked) false (laidWorld os) #[.int .i64 0] rfl (by kernel_rfl) (by kernel_rfl) (by kernel_rfl)
      (OpenSpec.preRow_of_cond 8 hx (by kernel_rfl) (fun k hk => by cases hk) (by kernel_rfl) (laid_met os))) ?_
  intro W base args ds gs before hval0 hW _ _ _ hL _ _
  have hval : ∀ (j : Nat) t v, Tryd.f6.params[j]? = some t → args[j]? = some v → Value.okWide Tryd.prog W .any base t v := hval0
  have hW' := hW
  obtain ⟨p, q, hA0, hV, rfl, hfz, hnd⟩ := hW
  have hA : DataW.TrodAll enc Tryd.prog W 0 (fun _ => true) true Tryd.f6.params.toList args.toList ds p := hA0
  rw [Tryd.params6] at hA hval
  obtain ⟨v0, vs0, d0, ds0, p0, q0, hargs, rfl, rfl, h0, r0⟩ := trodAll_cons hA
  obtain ⟨rfl, rfl, rfl⟩ := trodAll_nil r0
  obtain rfl : args = #[v0] := by cases args; simp_all
  obtain ⟨rfl, rfl⟩ := trodVars_none hV
  obtain ⟨h, rfl, rfl, rfl, hh⟩ := open_int Tryd.underlying3 (hval 0 3 v0 rfl rfl) h0
  clear hA0 hval0
  refine (walk h W (bd_of hL) hh).mono fun e W' ⟨he, bel⟩ => ?_
  subst he
  exact ⟨_, rfl, _, _, _, [], _, [], hW', trodAll_mk1 (shut_bool Tryd.underlying4 _), (trodAll_cons_mk (shut_int Tryd.underlying3 hh) trodAll_mk0), rfl, bel.frame _, fun h => by cases h⟩

theorem said : Rows.IdentOneSaid :=
  OpenClaim.holds_of_cond 6 Tryd.f6 rfl rfl rfl rfl rfl rfl rfl ⟨rfl, rfl, rfl, rfl, rfl⟩ rfl rfl rfl rfl rfl (by kernel_rfl) Tryd.func6 (by kernel_rfl)
    (of_decide_eq_true (by kernel_rfl)) (by unfold Func.isWrapper; first | (rw [if_pos (by decide +kernel)]; kernel_rfl) | (rw [if_neg (by decide +kernel)]; exact ⟨rfl, rfl⟩))
    (fun os started H enc _ F => by rw [OpenClaim.pre_eq_preRow]; exact lifted os started H enc F)

theorem plain (f : FuncId) (fn : Func) (hf : Tryd.pinned.checked.prog.funcNamed "almery/almerylaw09.IdentOne" = some f) (hfn : Tryd.pinned.checked.prog.funcs[f]? = some fn) :
    false = Tryd.pinned.checked.prog.looks [] ∧ ∀ (j : Nat) t, fn.params[j]? = some t → Tryd.pinned.checked.prog.wantsStandIn t = false := by
  obtain rfl : f = 6 := Option.some.inj ((show Tryd.prog.funcNamed "almery/almerylaw09.IdentOne" = some 6 by kernel_rfl).symm.trans hf) |>.symm
  obtain rfl : fn = Tryd.f6 := (Option.some.inj (Tryd.func6.symm.trans hfn)).symm
  refine ⟨by kernel_rfl, fun j t ht => ?_⟩
  rw [Tryd.params6] at ht
  match j, ht with
  | 0, ht =>
    obtain rfl : t = 3 := by simpa using ht.symm
    exact (show Tryd.prog.wantsStandIn 3 = false by kernel_rfl)
  | j + 1, ht => simp at ht

theorem proved : Rows.IdentOneCardSaid :=
  Claim7.holds_tied_plain_at .later [] _ _ _ _ said (fun _ h => by cases h) (by kernel_rfl) (fun _ h => by cases h) identOne_row_tie rfl ⟨rfl, rfl⟩ (by kernel_rfl) rfl plain (by kernel_rfl)
#print axioms proved
end Go.Proofs.YtodombgmjnidiaaDoor.identOne
