/-
  almerylaw19.OpOne returns true for every slice of bytes, and all memory that was there is as it was. No condition.
-/
import Derived.Test.YtjnnblcafocdoaaDoorRows
import Derived.Test.YtjnnblcafocdoaaDoorCards
import Derived.Test.YtjnnblcafocdoaaDoorTie
import Derived.Deep.DeepHandedRow
import Derived.SevenTiedAt
import Derived.WalkKit
import Derived.ProofKit
import Derived.OpenShut
import Derived.Test.YtjnnblcafocdoaaDoorOpAwake
import Derived.Test.YtjnnblcafocdoaaDoorOpWays
import Derived.Test.YtjnnblcafocdoaaDoorOpLaid
import Derived.ShutString
import Derived.ChangeOld
import Derived.Below
namespace Go.Proofs.YtjnnblcafocdoaaDoor.opOne
open Go.ChangeShapes Go.WideShapes Go.ChangeAt Go.RowKit
open Go.ChangeMaps (open_string shut_string)
set_option linter.unusedVariables false

theorem own : ownKnob Tryd.prog.godebug = none := by kernel_rfl
theorem laidOut : laidOutB Tryd.prog = true := by kernel_rfl

/-! ### The walk -/
set_option maxRecDepth 20000 in
set_option maxHeartbeats 2000000 in
theorem walk (ab : Option Addr) (lb cb : Nat) (b : List Int) (w : World) (hL0 : Wd w) (hb : Bytes w w.heap.size ab lb b) (hcb : lb ≤ cb) :
    Calls Tryd.prog 6 #[.slice ab lb cb] w fun e w' => e = .returned (.bool true) ∧ Below w.heap.size w w' := by
  have HW := Lib.hid hL0
  clear hL0
  have hmax := hb.max
  go_enter Tryd.func6, Tryd.ntmps6
  go_wp2_with fail
  refine (awake19_any _ HW.out).mono ?_
  rintro e w1 ⟨rfl, b1⟩
  have L1 := Lib.hid (hb.on b1)
  have HWY := take_ways hb.fit
  have HL := hb.len
  clear hb
  by_cases h6 : 600 < lb
  · have d6 : decide ((600 : Int) < (lb : Int)) = true := decide_eq_true (by omega)
    have d6' : decide (600 < lb) = true := decide_eq_true h6
    clear HWY
    go_wp2
    go_ret
    exact ⟨rfl, b1⟩
  · have d6 : decide ((600 : Int) < (lb : Int)) = false := decide_eq_false (by omega)
    have d6' : decide (600 < lb) = false := decide_eq_false h6
    have HT := take19_any ab lb cb b w1 (HW.out.next b1) L1.out hcb (by omega)
    rcases HWY with ⟨l, t1, t2, t3, t4, t5⟩ | ⟨p, l, t1, t2, t3, t4, t5, t6, t7⟩
    · unfold TakeEnd at HT
      rw [t1] at HT
      have H := Lib.hid HT
      have T4 := Lib.hid t4
      have ln : l.length ≤ 100 := by omega
      clear HT h6 t1 t2 t3 t4 t5
      go_wp2_with fail
      refine H.out.mono ?_
      rintro e w2 ⟨a2, n2, c2, us, rfl, hc2, o2, e2, f2⟩
      have hn2 : n2 ≤ 1000 := by have := congrArg List.length e2; rw [List.length_map, o2.len] at this; omega
      have HP := put19_any a2 n2 c2 us w2 (HW.out.next (belowT b1 f2)) o2 hn2
      unfold PutEnd at HP
      rw [show us.map Ov.op = l from e2, T4.out] at HP
      have HP2 := Lib.hid HP
      have BF := Lib.hid (belowT b1 f2)
      have X2 := Lib.hid (L1.out.on f2)
      clear HP o2 e2 f2 b1 L1 H hn2
      go_wp2_with fail
      refine HP2.out.mono ?_
      rintro e w3 ⟨a3, n3, c3, rfl, hc3, x3, f3⟩
      have s2 := string_run (c := cb) (X2.out.on f3)
      have s3 := string_run (c := c3) x3
      have BG := Lib.hid (belowT BF.out f3)
      clear x3 f3 X2 BF HP2 T4
      go_wp2
      go_ret
      exact ⟨rfl, BG.out⟩
    · unfold TakeEnd at HT
      rw [t1] at HT
      have H := Lib.hid HT
      have T3 := Lib.hid t3
      have T6 := Lib.hid t6
      have ln : l.length ≤ 100 := by omega
      have hp : p < lb := by omega
      have dp : decide ((lb : Int) ≤ (p : Int)) = false := decide_eq_false (by omega)
      have dp' : decide (lb ≤ p) = false := decide_eq_false (by omega)
      have dq : decide ((p : Int) < 0) = false := decide_eq_false (by omega)
      have hcut : ∀ v, (Instr.sliceAt 25 (.slice ab lb cb) none (some (.int .i64 (p : Int))) none).run Tryd.prog v = .ok (.slice ab p cb) v := fun v => cut_first (by omega) v
      have hpc : p ≤ cb := by omega
      have hp6 : p ≤ 100000 := by omega
      clear HT h6 t1 t2 t3 t4 t5 t6 t7
      go_wp2_with fail
      refine H.out.mono ?_
      rintro e w2 ⟨a2, n2, c2, us, rfl, hc2, o2, e2, f2⟩
      obtain rfl : n2 = 0 := by have := congrArg List.length e2; rw [List.length_map, o2.len] at this; exact this
      have X2 := Lib.hid (L1.out.on f2)
      have BF := Lib.hid (belowT b1 f2)
      have HT2 := take19_any ab p cb (b.take p) w2 (HW.out.next BF.out) (X2.out.first (by omega)) hpc hp6
      unfold TakeEnd at HT2
      rw [T3.out] at HT2
      have H2 := Lib.hid HT2
      clear o2 e2 f2 b1 L1 H HT2 T3
      go_wp2_with fail
      refine H2.out.mono ?_
      rintro e w3 ⟨a3, n3, c3, vs, rfl, hc3, o3, e3, f3⟩
      have hn3 : n3 ≤ 1000 := by have := congrArg List.length e3; rw [List.length_map, o3.len] at this; omega
      have HP := put19_any a3 n3 c3 vs w3 (HW.out.next (belowT BF.out f3)) o3 hn3
      unfold PutEnd at HP
      rw [show vs.map Ov.op = l from e3, T6.out] at HP
      have HP2 := Lib.hid HP
      have BG := Lib.hid (belowT BF.out f3)
      have X3 := Lib.hid (X2.out.on f3)
      clear HP o3 e3 f3 BF X2 hn3 H2 T6
      go_wp2_with fail
      refine HP2.out.mono ?_
      rintro e w4 ⟨a4, n4, c4, rfl, hc4, x4, f4⟩
      have X4 := (X3.out.first (k := p) (by omega)).on f4
      have s2 : ∀ i, (convert 25 9 (.slice ab p cb)).run Tryd.prog (w4.drewN i) = .ok (.string (strOfNums (b.take p))) (w4.drewN i) := fun i => string_run (X4.drewN i)
      have s3 : ∀ i, (convert 25 9 (.slice a4 n4 c4)).run Tryd.prog (w4.drewN i) = .ok (.string (strOfNums (b.take p))) (w4.drewN i) := fun i => string_run (x4.drewN i)
      have BH := Lib.hid (belowT BG.out f4)
      clear x4 f4 X3 X4 BG HP2
      generalize strOfNums (b.take p) = S at *
      go_wp2_with fail
      go_quiet (fail)
      go_wp2
      go_ret
      exact ⟨rfl, belowN BH.out _⟩

/-! ### The frame of the row -/
theorem laid_met (os : Os) : laidMet Tryd.prog Rows.opOneRow.laid ((laidWorld os).forCall (fun _ _ => 0) ⟨#[], #[.slice none 0 0], []⟩).memory :=
  laidMet_of_run' 8 (by kernel_rfl) (by kernel_rfl)
theorem reads (os : Os) {H : Type} (enc : TypeId × Value → H) : ∃ places, DataW.whole enc Tryd.prog ((laidWorld os).forCall (fun _ _ => 0) ⟨#[], #[.slice none 0 0], []⟩).memory Tryd.f6.params.toList Rows.opOneSpec.vars false (#[.slice none 0 0] : Array Value).toList 8 = some ([.nil], [], places) :=
  ⟨[], by kernel_rfl⟩
set_option maxRecDepth 100000 in
theorem lifted (os : Os) (started : os.Started) (H : Type) (enc : TypeId × Value → H) (F : Stop.Interp) :
    ReturnsInHanded {} Tryd.checked os 6 .any ((OpenSpec.ofChange Rows.opOneSpec).preRow enc Tryd.prog Tryd.f6 Rows.opOneRow.domain false Rows.opOneRow.laid) (((OpenSpec.ofChange Rows.opOneSpec).at F).post enc Tryd.prog Tryd.f6 false true false false) := by
  obtain ⟨places, hx⟩ := reads os enc
  refine returnsInHanded_of_row (C := Tryd.checked) (s := OpenSpec.ofChange Rows.opOneSpec) own started (by kernel_rfl) Tryd.func6
    (witness_row_at (enc := enc) (C := Tryd.checked) false (laidWorld os) #[.slice none 0 0] rfl (by kernel_rfl) (by kernel_rfl) (by kernel_rfl)
      (OpenSpec.preRow_of_cond 8 hx (by kernel_rfl) (fun k hk => by cases hk) (by kernel_rfl) (laid_met os))) ?_
  intro W base args ds gs before hval0 hW _ _ _ hL _ _
  have hval : ∀ (j : Nat) t v, Tryd.f6.params[j]? = some t → args[j]? = some v → Value.okWide Tryd.prog W .any base t v := hval0
  have hW' := hW
  obtain ⟨p, q, hA0, hV, rfl, hfz, hnd⟩ := hW
  have hA : DataW.TrodAll enc Tryd.prog W 0 (fun _ => true) true Tryd.f6.params.toList args.toList ds p := hA0
  rw [Tryd.params6] at hA hval
  obtain ⟨v0, vs0, d0, ds0, p0, q0, hargs, rfl, rfl, h0, r0⟩ := trodAll_cons hA
  obtain ⟨rfl, rfl, rfl⟩ := trodAll_nil r0
  obtain rfl : args = #[v0] := by cases args; simp_all
  obtain ⟨rfl, rfl⟩ := trodVars_none hV
  have k0 := h0
  have lt0 : ∀ x ∈ p0, x.block < W.heap.size := by obtain ⟨m, hm⟩ := k0; exact DataW.trod_lt m _ _ _ hm
  obtain ⟨ab, lb, cb, rfl⟩ := okWide_slice Tryd.underlying25 (hval 0 25 v0 rfl rfl)
  obtain ⟨b, hcb, hb⟩ : ∃ xs, lb ≤ cb ∧ Bytes W W.heap.size ab lb xs := by
    obtain ⟨fuel, hf⟩ := h0
    obtain ⟨a, l, c, xs, e, hl, hi⟩ := bytes_field (by simpa [Value.cells] using hf)
    injection e with e1 e2 e3
    subst e1 e2 e3
    exact ⟨xs, hl, hi⟩
  clear hA0 hval0
  refine (walk ab lb cb b W (wd_of hL) hb hcb).mono fun e W' ⟨he, bel⟩ => ?_
  subst he
  exact ⟨_, rfl, _, _, _, [], _, [], hW', trodAll_mk1 (shut_bool Tryd.underlying4 _), (trodAll_cons_mk (Below.trod laidOut (by kernel_rfl) (of_decide_eq_true (by kernel_rfl)) k0 bel lt0) trodAll_mk0), rfl, bel.frame _, fun h => by cases h⟩

theorem said : Rows.OpOneSaid :=
  OpenClaim.holds_of_cond 6 Tryd.f6 rfl rfl rfl rfl rfl rfl rfl ⟨rfl, rfl, rfl, rfl, rfl⟩ rfl rfl rfl rfl rfl (by kernel_rfl) Tryd.func6 (by kernel_rfl)
    (of_decide_eq_true (by kernel_rfl)) (by unfold Func.isWrapper; first | (rw [if_pos (by decide +kernel)]; kernel_rfl) | (rw [if_neg (by decide +kernel)]; exact ⟨rfl, rfl⟩))
    (fun os started H enc _ F => by rw [OpenClaim.pre_eq_preRow]; exact lifted os started H enc F)

theorem plain (f : FuncId) (fn : Func) (hf : Tryd.pinned.checked.prog.funcNamed "almery/almerylaw19.OpOne" = some f) (hfn : Tryd.pinned.checked.prog.funcs[f]? = some fn) :
    false = Tryd.pinned.checked.prog.looks [] ∧ ∀ (j : Nat) t, fn.params[j]? = some t → Tryd.pinned.checked.prog.wantsStandIn t = false := by
  obtain rfl : f = 6 := Option.some.inj ((show Tryd.prog.funcNamed "almery/almerylaw19.OpOne" = some 6 by kernel_rfl).symm.trans hf) |>.symm
  obtain rfl : fn = Tryd.f6 := (Option.some.inj (Tryd.func6.symm.trans hfn)).symm
  refine ⟨by kernel_rfl, fun j t ht => ?_⟩
  rw [Tryd.params6] at ht
  match j, ht with
  | 0, ht =>
    obtain rfl : t = 25 := by simpa using ht.symm
    exact (show Tryd.prog.wantsStandIn 25 = false by kernel_rfl)
  | j + 1, ht => simp at ht

theorem proved : Rows.OpOneCardSaid :=
  Claim7.holds_tied_plain_at .later [] _ _ _ _ said (fun _ h => by cases h) (by kernel_rfl) (fun _ h => by cases h) opOne_row_tie rfl ⟨rfl, rfl⟩ (by kernel_rfl) rfl plain (by kernel_rfl)
#print axioms proved
end Go.Proofs.YtjnnblcafocdoaaDoor.opOne
