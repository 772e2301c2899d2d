/-
  almerylaw19.OpTakes returns true for every slice of bytes, and all memory that was there is as it was. No condition.
-/
import Derived.Test.YtjnnblcafocdoaaDoorRows
import Derived.Test.YtjnnblcafocdoaaDoorCards
import Derived.Test.YtjnnblcafocdoaaDoorTie
import Derived.Deep.DeepHandedRow
import Derived.SevenTiedAt
import Derived.WalkKit
import Derived.ProofKit
import Derived.OpenShut
import Derived.Test.YtjnnblcafocdoaaDoorOpAwake
import Derived.Test.YtjnnblcafocdoaaDoorOpSame
import Derived.Test.YtjnnblcafocdoaaDoorOpLaid
import Derived.ShutString
import Derived.ChangeOld
import Derived.Below
namespace Go.Proofs.YtjnnblcafocdoaaDoor.opTakes
open Go.ChangeShapes Go.WideShapes Go.ChangeAt Go.RowKit
open Go.ChangeMaps (open_string shut_string)
set_option linter.unusedVariables false

theorem own : ownKnob Tryd.prog.godebug = none := by kernel_rfl
theorem laidOut : laidOutB Tryd.prog = true := by kernel_rfl

/-! ### The walk -/
set_option maxRecDepth 20000 in
set_option maxHeartbeats 2000000 in
theorem walk (ab : Option Addr) (lb cb : Nat) (b : List Int) (w : World) (hL0 : Wd w) (hb : Bytes w w.heap.size ab lb b) (hcb : lb ≤ cb) :
    Calls Tryd.prog 4 #[.slice ab lb cb] w fun e w' => e = .returned (.bool true) ∧ Below w.heap.size w w' := by
  have HW := Lib.hid hL0
  clear hL0
  have hmax := hb.max
  go_enter Tryd.func4, Tryd.ntmps4
  go_wp2_with fail
  refine (awake19_any _ HW.out).mono ?_
  rintro e w1 ⟨rfl, b1⟩
  have L1 := Lib.hid (hb.on b1)
  clear hb
  by_cases h6 : 600 < lb
  · have d6 : decide ((600 : Int) < (lb : Int)) = true := decide_eq_true (by omega)
    have d6' : decide (600 < lb) = true := decide_eq_true h6
    go_wp2
    go_ret
    exact ⟨rfl, b1⟩
  · have d6 : decide ((600 : Int) < (lb : Int)) = false := decide_eq_false (by omega)
    have d6' : decide (600 < lb) = false := decide_eq_false h6
    have HT := Lib.hid (take19_any ab lb cb b w1 (HW.out.next b1) L1.out hcb (by omega))
    have HR := Lib.hid (fun v (hv : Below w1.heap.size w1 v) => refTake19_any ab lb cb b v (L1.out.on hv) hcb (by omega))
    clear h6
    go_wp2_with fail
    refine HT.out.mono ?_
    rintro e w2 ⟨a2, n2, c2, us, rfl, hc2, o2, e2, f2⟩
    have O2 := Lib.hid o2
    have E2 := Lib.hid e2
    clear o2 e2 HT
    go_wp2_with fail
    refine (HR.out _ f2).mono ?_
    rintro e w3 ⟨a3, n3, c3, vs, rfl, hc3, o3, e3, f3⟩
    have HS := Lib.hid (refSame19_any a2 a3 n2 c2 n3 c3 us vs w3 (O2.out.on f3) o3 (E2.out.trans e3.symm))
    have BF := Lib.hid (belowT (belowT b1 f2) f3)
    clear O2 E2 o3 e3 f2 f3 b1 HR
    generalize (takeOut b).2.1 = p at *
    generalize (takeOut b).2.2 = r at *
    go_wp2_with fail
    refine HS.out.mono ?_
    rintro e w4 ⟨rfl, j4, rfl⟩
    go_wp2
    go_ret
    exact ⟨rfl, belowN BF.out _⟩

/-! ### The frame of the row -/
theorem laid_met (os : Os) : laidMet Tryd.prog Rows.opTakesRow.laid ((laidWorld os).forCall (fun _ _ => 0) ⟨#[], #[.slice none 0 0], []⟩).memory :=
  laidMet_of_run' 8 (by kernel_rfl) (by kernel_rfl)
theorem reads (os : Os) {H : Type} (enc : TypeId × Value → H) : ∃ places, DataW.whole enc Tryd.prog ((laidWorld os).forCall (fun _ _ => 0) ⟨#[], #[.slice none 0 0], []⟩).memory Tryd.f4.params.toList Rows.opTakesSpec.vars false (#[.slice none 0 0] : Array Value).toList 8 = some ([.nil], [], places) :=
  ⟨[], by kernel_rfl⟩
set_option maxRecDepth 100000 in
theorem lifted (os : Os) (started : os.Started) (H : Type) (enc : TypeId × Value → H) (F : Stop.Interp) :
    ReturnsInHanded {} Tryd.checked os 4 .any ((OpenSpec.ofChange Rows.opTakesSpec).preRow enc Tryd.prog Tryd.f4 Rows.opTakesRow.domain false Rows.opTakesRow.laid) (((OpenSpec.ofChange Rows.opTakesSpec).at F).post enc Tryd.prog Tryd.f4 false true false false) := by
  obtain ⟨places, hx⟩ := reads os enc
  refine returnsInHanded_of_row (C := Tryd.checked) (s := OpenSpec.ofChange Rows.opTakesSpec) own started (by kernel_rfl) Tryd.func4
    (witness_row_at (enc := enc) (C := Tryd.checked) false (laidWorld os) #[.slice none 0 0] rfl (by kernel_rfl) (by kernel_rfl) (by kernel_rfl)
      (OpenSpec.preRow_of_cond 8 hx (by kernel_rfl) (fun k hk => by cases hk) (by kernel_rfl) (laid_met os))) ?_
  intro W base args ds gs before hval0 hW _ _ _ hL _ _
  have hval : ∀ (j : Nat) t v, Tryd.f4.params[j]? = some t → args[j]? = some v → Value.okWide Tryd.prog W .any base t v := hval0
  have hW' := hW
  obtain ⟨p, q, hA0, hV, rfl, hfz, hnd⟩ := hW
  have hA : DataW.TrodAll enc Tryd.prog W 0 (fun _ => true) true Tryd.f4.params.toList args.toList ds p := hA0
  rw [Tryd.params4] at hA hval
  obtain ⟨v0, vs0, d0, ds0, p0, q0, hargs, rfl, rfl, h0, r0⟩ := trodAll_cons hA
  obtain ⟨rfl, rfl, rfl⟩ := trodAll_nil r0
  obtain rfl : args = #[v0] := by cases args; simp_all
  obtain ⟨rfl, rfl⟩ := trodVars_none hV
  have k0 := h0
  have lt0 : ∀ x ∈ p0, x.block < W.heap.size := by obtain ⟨m, hm⟩ := k0; exact DataW.trod_lt m _ _ _ hm
  obtain ⟨ab, lb, cb, rfl⟩ := okWide_slice Tryd.underlying25 (hval 0 25 v0 rfl rfl)
  obtain ⟨b, hcb, hb⟩ : ∃ xs, lb ≤ cb ∧ Bytes W W.heap.size ab lb xs := by
    obtain ⟨fuel, hf⟩ := h0
    obtain ⟨a, l, c, xs, e, hl, hi⟩ := bytes_field (by simpa [Value.cells] using hf)
    injection e with e1 e2 e3
    subst e1 e2 e3
    exact ⟨xs, hl, hi⟩
  clear hA0 hval0
  refine (walk ab lb cb b W (wd_of hL) hb hcb).mono fun e W' ⟨he, bel⟩ => ?_
  subst he
  exact ⟨_, rfl, _, _, _, [], _, [], hW', trodAll_mk1 (shut_bool Tryd.underlying4 _), (trodAll_cons_mk (Below.trod laidOut (by kernel_rfl) (of_decide_eq_true (by kernel_rfl)) k0 bel lt0) trodAll_mk0), rfl, bel.frame _, fun h => by cases h⟩

theorem said : Rows.OpTakesSaid :=
  OpenClaim.holds_of_cond 4 Tryd.f4 rfl rfl rfl rfl rfl rfl rfl ⟨rfl, rfl, rfl, rfl, rfl⟩ rfl rfl rfl rfl rfl (by kernel_rfl) Tryd.func4 (by kernel_rfl)
    (of_decide_eq_true (by kernel_rfl)) (by unfold Func.isWrapper; first | (rw [if_pos (by decide +kernel)]; kernel_rfl) | (rw [if_neg (by decide +kernel)]; exact ⟨rfl, rfl⟩))
    (fun os started H enc _ F => by rw [OpenClaim.pre_eq_preRow]; exact lifted os started H enc F)

theorem plain (f : FuncId) (fn : Func) (hf : Tryd.pinned.checked.prog.funcNamed "almery/almerylaw19.OpTakes" = some f) (hfn : Tryd.pinned.checked.prog.funcs[f]? = some fn) :
    false = Tryd.pinned.checked.prog.looks [] ∧ ∀ (j : Nat) t, fn.params[j]? = some t → Tryd.pinned.checked.prog.wantsStandIn t = false := by
  obtain rfl : f = 4 := Option.some.inj ((show Tryd.prog.funcNamed "almery/almerylaw19.OpTakes" = some 4 by kernel_rfl).symm.trans hf) |>.symm
  obtain rfl : fn = Tryd.f4 := (Option.some.inj (Tryd.func4.symm.trans hfn)).symm
  refine ⟨by kernel_rfl, fun j t ht => ?_⟩
  rw [Tryd.params4] at ht
  match j, ht with
  | 0, ht =>
    obtain rfl : t = 25 := by simpa using ht.symm
    exact (show Tryd.prog.wantsStandIn 25 = false by kernel_rfl)
  | j + 1, ht => simp at ht

theorem proved : Rows.OpTakesCardSaid :=
  Claim7.holds_tied_plain_at .later [] _ _ _ _ said (fun _ h => by cases h) (by kernel_rfl) (fun _ h => by cases h) opTakes_row_tie rfl ⟨rfl, rfl⟩ (by kernel_rfl) rfl plain (by kernel_rfl)
#print axioms proved
end Go.Proofs.YtjnnblcafocdoaaDoor.opTakes
