/-
  IdentBack: a handle that is joined is split into what it was joined of. The package's bounds stand as its text lays them (a tied card). No other condition.
-/
import Derived.Test.YtodombgmjnidiaaDoorRows
import Derived.Test.YtodombgmjnidiaaDoorCards
import Derived.Test.YtodombgmjnidiaaDoorTie
import Derived.Deep.DeepHandedRow
import Derived.SevenTiedAt
import Derived.WalkKit
import Derived.ProofKit
import Derived.OpenShut
import Derived.Test.YtodombgmjnidiaaDoorIdentAwake
import Derived.Test.YtodombgmjnidiaaDoorIdentLaid
import Derived.ShutString
import Derived.ChangeOld
import Derived.Below
namespace Go.Proofs.YtodombgmjnidiaaDoor.identBack
open Go.ChangeShapes Go.WideShapes Go.ChangeAt Go.RowKit
open Go.ChangeMaps (open_string shut_string)
set_option linter.unusedVariables false

theorem own : ownKnob Tryd.prog.godebug = none := by kernel_rfl
theorem laidOut : laidOutB Tryd.prog = true := by kernel_rfl

/-! ### The walk -/
theorem walk (slot : Int) (gen : Int) (w : World) (hL0 : Bd w) (hslot : (Lit.int .u16 slot).wf = true) (hgen : (Lit.int .u16 gen).wf = true) :
    Calls Tryd.prog 5 #[.int .u16 slot, .int .u16 gen] w fun e w' => e = .returned (.bool true) ∧ Below w.heap.size w w' := by
  obtain ⟨l1, l2⟩ := bounds_u16 hslot
  obtain ⟨m1, m2⟩ := bounds_u16 hgen
  have H := Lib.hid hL0
  have A := Lib.hid (awake09_any w hL0)
  obtain ⟨s, hs⟩ : ∃ s, slot % 4096 = s := ⟨_, rfl⟩
  obtain ⟨r, hr⟩ : ∃ r, gen % 1023 = r := ⟨_, rfl⟩
  have hs2 : slot.tmod 4096 = s := by rw [Int.tmod_eq_emod_of_nonneg (by omega), hs]
  have hr2 : gen.tmod 1023 = r := by rw [Int.tmod_eq_emod_of_nonneg (by omega), hr]
  have s1 : 0 ≤ s ∧ s ≤ 4095 := by omega
  have r1 : 0 ≤ r ∧ r ≤ 1022 := by omega
  obtain ⟨g, hg⟩ : ∃ g, 1 + r = g := ⟨_, rfl⟩
  have hw : IntKind.i64.wrap (1 + r) = g := by rw [IntWalk.i64_in _ (by omega), hg]
  obtain ⟨f1, f2⟩ := join_on (mayB_on (x := s) (y := g) (by omega))
  obtain ⟨h, hh⟩ : ∃ h, 4096 * g + s = h := ⟨_, rfl⟩
  have hl : decide (4096 ≤ h) = true := by simp; omega
  have J := fun v (hv : Bd v) => join_any s g v hv
  obtain ⟨e1, e2, e3⟩ := split_on (h := h) (decide_eq_true (by omega))
  have S := fun v (hv : Bd v) => split_any h v hv (by omega) (by omega)
  have q1 : h % 4096 = s := by omega
  have q2 : h / 4096 = g := by omega
  rw [f1, f2, hh] at J
  rw [e1, e2, e3, q1, q2] at S
  have HJ := Lib.hid J
  have HS := Lib.hid S
  clear J S f1 f2 e1 e2 e3 q1 q2 hh hL0 hslot hgen
  go_enter Tryd.func5, Tryd.ntmps5
  go_wp2_with fail
  refine A.out.mono ?_
  rintro e w1 ⟨rfl, b1⟩
  have B1 := Lib.hid b1
  have H1 := Lib.hid (H.out.next b1)
  clear b1
  go_wp2_with fail
  refine (HJ.out w1 H1.out).mono ?_
  rintro e w2 ⟨rfl, b2⟩
  have B2 := Lib.hid (belowT B1.out b2)
  have H2 := Lib.hid (H1.out.next b2)
  clear b2
  go_wp2_with fail
  refine (HS.out w2 H2.out).mono ?_
  rintro e w3 ⟨rfl, b3⟩
  have B3 := Lib.hid (belowT B2.out b3)
  clear b3
  go_wp2
  go_ret
  exact ⟨by simp, B3.out⟩

/-! ### The frame of the row -/
theorem laid_met (os : Os) : laidMet Tryd.prog Rows.identBackRow.laid ((laidWorld os).forCall (fun _ _ => 0) ⟨#[], #[.int .u16 0, .int .u16 0], []⟩).memory :=
  laidMet_of_run' 8 (by kernel_rfl) (by kernel_rfl)
theorem reads (os : Os) {H : Type} (enc : TypeId × Value → H) : ∃ places, DataW.whole enc Tryd.prog ((laidWorld os).forCall (fun _ _ => 0) ⟨#[], #[.int .u16 0, .int .u16 0], []⟩).memory Tryd.f5.params.toList Rows.identBackSpec.vars false (#[.int .u16 0, .int .u16 0] : Array Value).toList 8 = some ([.lit (.int .u16 0), .lit (.int .u16 0)], [], places) :=
  ⟨[], by kernel_rfl⟩
set_option maxRecDepth 100000 in
theorem lifted (os : Os) (started : os.Started) (H : Type) (enc : TypeId × Value → H) (F : Stop.Interp) :
    ReturnsInHanded {} Tryd.checked os 5 .any ((OpenSpec.ofChange Rows.identBackSpec).preRow enc Tryd.prog Tryd.f5 Rows.identBackRow.domain false Rows.identBackRow.laid) (((OpenSpec.ofChange Rows.identBackSpec).at F).post enc Tryd.prog Tryd.f5 false true false false) := by
  obtain ⟨places, hx⟩ := reads os enc
  refine returnsInHanded_of_row (C := Tryd.checked) (s := OpenSpec.ofChange Rows.identBackSpec) own started (by kernel_rfl) Tryd.func5
    (witness_row_at (enc := enc) (C := Tryd.checked) false (laidWorld os) #[.int .u16 0, .int .u16 0] rfl (by kernel_rfl) (by kernel_rfl) (by kernel_rfl)
      (OpenSpec.preRow_of_cond 8 hx (by kernel_rfl) (fun k hk => by cases hk) (by kernel_rfl) (laid_met os))) ?_
  intro W base args ds gs before hval0 hW _ _ _ hL _ _
  have hval : ∀ (j : Nat) t v, Tryd.f5.params[j]? = some t → args[j]? = some v → Value.okWide Tryd.prog W .any base t v := hval0
  have hW' := hW
  obtain ⟨p, q, hA0, hV, rfl, hfz, hnd⟩ := hW
  have hA : DataW.TrodAll enc Tryd.prog W 0 (fun _ => true) true Tryd.f5.params.toList args.toList ds p := hA0
  rw [Tryd.params5] at hA hval
  obtain ⟨v0, vs0, d0, ds0, p0, q0, hargs, rfl, rfl, h0, r0⟩ := trodAll_cons hA
  obtain ⟨v1, vs1, d1, ds1, p1, q1, rfl, rfl, rfl, h1, r1⟩ := trodAll_cons r0
  obtain ⟨rfl, rfl, rfl⟩ := trodAll_nil r1
  obtain rfl : args = #[v0, v1] := by cases args; simp_all
  obtain ⟨rfl, rfl⟩ := trodVars_none hV
  obtain ⟨slot, rfl, rfl, rfl, hslot⟩ := open_int Tryd.underlying34 (hval 0 34 v0 rfl rfl) h0
  obtain ⟨gen, rfl, rfl, rfl, hgen⟩ := open_int Tryd.underlying34 (hval 1 34 v1 rfl rfl) h1
  clear hA0 hval0
  refine (walk slot gen W (bd_of hL) hslot hgen).mono fun e W' ⟨he, bel⟩ => ?_
  subst he
  exact ⟨_, rfl, _, _, _, [], _, [], hW', trodAll_mk1 (shut_bool Tryd.underlying4 _), (trodAll_cons_mk (shut_int Tryd.underlying34 hslot) (trodAll_cons_mk (shut_int Tryd.underlying34 hgen) trodAll_mk0)), rfl, bel.frame _, fun h => by cases h⟩

theorem said : Rows.IdentBackSaid :=
  OpenClaim.holds_of_cond 5 Tryd.f5 rfl rfl rfl rfl rfl rfl rfl ⟨rfl, rfl, rfl, rfl, rfl⟩ rfl rfl rfl rfl rfl (by kernel_rfl) Tryd.func5 (by kernel_rfl)
    (of_decide_eq_true (by kernel_rfl)) (by unfold Func.isWrapper; first | (rw [if_pos (by decide +kernel)]; kernel_rfl) | (rw [if_neg (by decide +kernel)]; exact ⟨rfl, rfl⟩))
    (fun os started H enc _ F => by rw [OpenClaim.pre_eq_preRow]; exact lifted os started H enc F)

theorem plain (f : FuncId) (fn : Func) (hf : Tryd.pinned.checked.prog.funcNamed "almery/almerylaw09.IdentBack" = some f) (hfn : Tryd.pinned.checked.prog.funcs[f]? = some fn) :
    false = Tryd.pinned.checked.prog.looks [] ∧ ∀ (j : Nat) t, fn.params[j]? = some t → Tryd.pinned.checked.prog.wantsStandIn t = false := by
  obtain rfl : f = 5 := Option.some.inj ((show Tryd.prog.funcNamed "almery/almerylaw09.IdentBack" = some 5 by kernel_rfl).symm.trans hf) |>.symm
  obtain rfl : fn = Tryd.f5 := (Option.some.inj (Tryd.func5.symm.trans hfn)).symm
  refine ⟨by kernel_rfl, fun j t ht => ?_⟩
  rw [Tryd.params5] at ht
  match j, ht with
  | 0, ht =>
    obtain rfl : t = 34 := by simpa using ht.symm
    exact (show Tryd.prog.wantsStandIn 34 = false by kernel_rfl)
  | 1, ht =>
    obtain rfl : t = 34 := by simpa using ht.symm
    exact (show Tryd.prog.wantsStandIn 34 = false by kernel_rfl)
  | j + 2, ht => simp at ht

theorem proved : Rows.IdentBackCardSaid :=
  Claim7.holds_tied_plain_at .later [] _ _ _ _ said (fun _ h => by cases h) (by kernel_rfl) (fun _ h => by cases h) identBack_row_tie rfl ⟨rfl, rfl⟩ (by kernel_rfl) rfl plain (by kernel_rfl)
#print axioms proved
end Go.Proofs.YtodombgmjnidiaaDoor.identBack
