/-
  ProxyNew: so many slots, of so many generations, or what forbids them. The bounds of package ident stand as its text lays them (a tied card). No other condition.
-/
import Derived.Test.YtelhhhmmkdbagaaDoorRows
import Derived.Test.YtelhhhmmkdbagaaDoorCards
import Derived.Test.YtelhhhmmkdbagaaDoorTie
import Derived.Deep.DeepHandedRow
import Derived.SevenTiedAt
import Derived.WalkKit
import Derived.ProofKit
import Derived.OpenShut
import Derived.Test.YtelhhhmmkdbagaaDoorProxyAwake
import Derived.Test.YtelhhhmmkdbagaaDoorProxyRefNew
import Derived.Test.YtelhhhmmkdbagaaDoorIdentLaid
import Derived.ShutString
import Derived.ChangeOld
import Derived.Below
namespace Go.Proofs.YtelhhhmmkdbagaaDoor.proxyNew
open Go.ChangeShapes Go.WideShapes Go.ChangeAt Go.RowKit
open Go.ChangeMaps (open_string shut_string)
set_option linter.unusedVariables false

theorem own : ownKnob Tryd.prog.godebug = none := by kernel_rfl
theorem laidOut : laidOutB Tryd.prog = true := by kernel_rfl

/-! ### The walk -/
set_option maxRecDepth 20000 in
set_option maxHeartbeats 1000000 in
theorem walk (slots : Int) (gens : Int) (w : World) (hL0 : Bd w) (hslots : (Lit.int .i64 slots).wf = true) (hgens : (Lit.int .i64 gens).wf = true) :
    Calls Tryd.prog 4 #[.int .i64 slots, .int .i64 gens] w fun e w' => e = .returned (.bool true) ∧ Below w.heap.size w w' := by
  have A := Lib.hid (awake10_any w hL0)
  have HBD := Lib.hid hL0
  clear hL0 hslots hgens
  by_cases hm : 1 ≤ slots ∧ slots ≤ 4096 ∧ 1 ≤ gens ∧ gens ≤ 1023
  · obtain ⟨K, rfl⟩ : ∃ K : Nat, slots = (K : Int) := ⟨slots.toNat, by omega⟩
    have h1 : 1 ≤ K := by omega
    have h2 : K ≤ 4096 := by omega
    obtain ⟨_, _, m1, m2⟩ := hm
    have eKK : ((K : Int) == (K : Int)) = true := by simp
    go_enter Tryd.func4, Tryd.ntmps4
    go_wp2_with fail
    refine A.out.mono ?_
    rintro e w0 ⟨rfl, h0⟩
    have H0 := Lib.hid h0
    have N1 := Lib.hid (new_ok K gens w0 h1 h2 m1 m2 (HBD.out.below HBD.out.pos h0))
    clear h0
    go_wp2_with fail
    refine N1.out.mono ?_
    rintro e w1 ⟨p, a, rfl, r1, b1, _, _⟩
    have B1 := Lib.hid (belowT H0.out b1)
    have M1 := Lib.hid r1
    clear r1 b1 N1
    have N2 := Lib.hid (refNew_ok K gens w1 h1 h2 m1 m2)
    go_wp2_with fail
    refine N2.out.mono ?_
    rintro e w2 ⟨ga, gc, la, lc, fa, fc, Q, rfl, r2, b2, _⟩
    have hb3 := below1 w2 (.cells #[.slice ga K gc, .slice la K lc, .slice fa K fc, .int .i64 gens] 29)
    have M3 := Lib.hid ((M1.out.below b2).below hb3)
    have B3 := Lib.hid (belowT (belowT B1.out b2) hb3)
    clear r2 b2 hb3 N2
    have K1 := left_any M3.out
    rw [show (fresh K).fl.length = K from turns_len K] at K1
    have K2 := live_any M3.out
    rw [show (fresh K).L.count true = 0 by show (List.replicate K false).count true = 0; rw [List.count_replicate]; simp] at K2
    have L1 := Lib.hid K1
    have L2 := Lib.hid K2
    clear K1 K2
    go_wp2_with fail
    refine L1.out.mono ?_
    rintro e w4 ⟨rfl, rfl⟩
    go_wp2_with fail
    refine L2.out.mono ?_
    rintro e w4 ⟨rfl, rfl⟩
    go_wp2
    go_ret
    exact ⟨rfl, B3.out⟩
  · have HM := Lib.hid hm
    clear hm
    go_enter Tryd.func4, Tryd.ntmps4
    go_wp2_with fail
    refine A.out.mono ?_
    rintro e w0 ⟨rfl, h0⟩
    have H0 := Lib.hid h0
    clear h0
    go_wp2_with fail
    refine (new_bad slots gens w0 HM.out).mono ?_
    rintro e w1 ⟨rfl, rfl⟩
    go_wp2_with fail
    refine (refNew_bad slots gens w0 HM.out).mono ?_
    rintro e w2 ⟨rfl, b2⟩
    have B2 := Lib.hid (belowT H0.out b2)
    clear b2
    go_wp2
    go_ret
    exact ⟨rfl, belowT B2.out (below1 _ _)⟩

/-! ### The frame of the row -/
theorem laid_met (os : Os) : laidMet Tryd.prog Rows.proxyNewRow.laid ((laidWorld os).forCall (fun _ _ => 0) ⟨#[], #[.int .i64 0, .int .i64 0], []⟩).memory :=
  laidMet_of_run' 8 (by kernel_rfl) (by kernel_rfl)
theorem reads (os : Os) {H : Type} (enc : TypeId × Value → H) : ∃ places, DataW.whole enc Tryd.prog ((laidWorld os).forCall (fun _ _ => 0) ⟨#[], #[.int .i64 0, .int .i64 0], []⟩).memory Tryd.f4.params.toList Rows.proxyNewSpec.vars false (#[.int .i64 0, .int .i64 0] : Array Value).toList 8 = some ([.lit (.int .i64 0), .lit (.int .i64 0)], [], places) :=
  ⟨[], by kernel_rfl⟩
set_option maxRecDepth 100000 in
theorem lifted (os : Os) (started : os.Started) (H : Type) (enc : TypeId × Value → H) (F : Stop.Interp) :
    ReturnsInHanded {} Tryd.checked os 4 .any ((OpenSpec.ofChange Rows.proxyNewSpec).preRow enc Tryd.prog Tryd.f4 Rows.proxyNewRow.domain false Rows.proxyNewRow.laid) (((OpenSpec.ofChange Rows.proxyNewSpec).at F).post enc Tryd.prog Tryd.f4 false true false false) := by
  obtain ⟨places, hx⟩ := reads os enc
  refine returnsInHanded_of_row (C := Tryd.checked) (s := OpenSpec.ofChange Rows.proxyNewSpec) own started (by kernel_rfl) Tryd.func4
    (witness_row_at (enc := enc) (C := Tryd.checked) false (laidWorld os) #[.int .i64 0, .int .i64 0] rfl (by kernel_rfl) (by kernel_rfl) (by kernel_rfl)
      (OpenSpec.preRow_of_cond 8 hx (by kernel_rfl) (fun k hk => by cases hk) (by kernel_rfl) (laid_met os))) ?_
  intro W base args ds gs before hval0 hW _ _ _ hL _ _
  have hval : ∀ (j : Nat) t v, Tryd.f4.params[j]? = some t → args[j]? = some v → Value.okWide Tryd.prog W .any base t v := hval0
  have hW' := hW
  obtain ⟨p, q, hA0, hV, rfl, hfz, hnd⟩ := hW
  have hA : DataW.TrodAll enc Tryd.prog W 0 (fun _ => true) true Tryd.f4.params.toList args.toList ds p := hA0
  rw [Tryd.params4] at hA hval
  obtain ⟨v0, vs0, d0, ds0, p0, q0, hargs, rfl, rfl, h0, r0⟩ := trodAll_cons hA
  obtain ⟨v1, vs1, d1, ds1, p1, q1, rfl, rfl, rfl, h1, r1⟩ := trodAll_cons r0
  obtain ⟨rfl, rfl, rfl⟩ := trodAll_nil r1
  obtain rfl : args = #[v0, v1] := by cases args; simp_all
  obtain ⟨rfl, rfl⟩ := trodVars_none hV
  obtain ⟨slots, rfl, rfl, rfl, hslots⟩ := open_int Tryd.underlying3 (hval 0 3 v0 rfl rfl) h0
  obtain ⟨gens, rfl, rfl, rfl, hgens⟩ := open_int Tryd.underlying3 (hval 1 3 v1 rfl rfl) h1
  clear hA0 hval0
  refine (walk slots gens W (bd_of hL) hslots hgens).mono fun e W' ⟨he, bel⟩ => ?_
  subst he
  exact ⟨_, rfl, _, _, _, [], _, [], hW', trodAll_mk1 (shut_bool Tryd.underlying4 _), (trodAll_cons_mk (shut_int Tryd.underlying3 hslots) (trodAll_cons_mk (shut_int Tryd.underlying3 hgens) trodAll_mk0)), rfl, bel.frame _, fun h => by cases h⟩

theorem said : Rows.ProxyNewSaid :=
  OpenClaim.holds_of_cond 4 Tryd.f4 rfl rfl rfl rfl rfl rfl rfl ⟨rfl, rfl, rfl, rfl, rfl⟩ rfl rfl rfl rfl rfl (by kernel_rfl) Tryd.func4 (by kernel_rfl)
    (of_decide_eq_true (by kernel_rfl)) (by unfold Func.isWrapper; first | (rw [if_pos (by decide +kernel)]; kernel_rfl) | (rw [if_neg (by decide +kernel)]; exact ⟨rfl, rfl⟩))
    (fun os started H enc _ F => by rw [OpenClaim.pre_eq_preRow]; exact lifted os started H enc F)

theorem plain (f : FuncId) (fn : Func) (hf : Tryd.pinned.checked.prog.funcNamed "almery/almerylaw10.ProxyNew" = some f) (hfn : Tryd.pinned.checked.prog.funcs[f]? = some fn) :
    false = Tryd.pinned.checked.prog.looks [] ∧ ∀ (j : Nat) t, fn.params[j]? = some t → Tryd.pinned.checked.prog.wantsStandIn t = false := by
  obtain rfl : f = 4 := Option.some.inj ((show Tryd.prog.funcNamed "almery/almerylaw10.ProxyNew" = some 4 by kernel_rfl).symm.trans hf) |>.symm
  obtain rfl : fn = Tryd.f4 := (Option.some.inj (Tryd.func4.symm.trans hfn)).symm
  refine ⟨by kernel_rfl, fun j t ht => ?_⟩
  rw [Tryd.params4] at ht
  match j, ht with
  | 0, ht =>
    obtain rfl : t = 3 := by simpa using ht.symm
    exact (show Tryd.prog.wantsStandIn 3 = false by kernel_rfl)
  | 1, ht =>
    obtain rfl : t = 3 := by simpa using ht.symm
    exact (show Tryd.prog.wantsStandIn 3 = false by kernel_rfl)
  | j + 2, ht => simp at ht

theorem proved : Rows.ProxyNewCardSaid :=
  Claim7.holds_tied_plain_at .later [] _ _ _ _ said (fun _ h => by cases h) (by kernel_rfl) (fun _ h => by cases h) proxyNew_row_tie rfl ⟨rfl, rfl⟩ (by kernel_rfl) rfl plain (by kernel_rfl)
#print axioms proved
end Go.Proofs.YtelhhhmmkdbagaaDoor.proxyNew
