/-
  almerylaw19.OpJoins returns true for every two slices of operations, and all memory that was there is as it was. No condition.
-/
import Derived.Test.YtjnnblcafocdoaaDoorRows
import Derived.Test.YtjnnblcafocdoaaDoorCards
import Derived.Test.YtjnnblcafocdoaaDoorTie
import Derived.Deep.DeepHandedRow
import Derived.SevenTiedAt
import Derived.WalkKit
import Derived.ProofKit
import Derived.OpenShut
import Derived.Test.YtjnnblcafocdoaaDoorOpAwake
import Derived.Test.YtjnnblcafocdoaaDoorOpSame
import Derived.Test.YtjnnblcafocdoaaDoorOpApp
import Derived.Test.YtjnnblcafocdoaaDoorOpLaid
import Derived.ShutString
import Derived.ChangeOld
import Derived.Below
namespace Go.Proofs.YtjnnblcafocdoaaDoor.opJoins
open Go.ChangeShapes Go.WideShapes Go.ChangeAt Go.RowKit
open Go.ChangeMaps (open_string shut_string)
set_option linter.unusedVariables false

theorem own : ownKnob Tryd.prog.godebug = none := by kernel_rfl
theorem laidOut : laidOutB Tryd.prog = true := by kernel_rfl

theorem putOut_no {l : List Opn} (h : l.all mayO = false) : putOut l = ([], 2) := by unfold putOut; rw [if_neg (by rw [h]; simp)]
theorem putL_less : ∀ l : List Opn, (∀ o ∈ l, o.bs.length ≤ 300) → (putL l).length ≤ 327 * l.length
  | [], _ => by simp [putL]
  | o :: r, h => by
    have h1 := h o (by simp)
    have h2 := putL_less r (fun x hx => h x (by simp [hx]))
    rw [putL_cons, List.length_append, oneL_len, List.length_cons]
    omega
theorem few_size {w : World} {B n : Nat} {a : Option Addr} {us : List Ov} (h : Ops w B a n us) (h40 : n ≤ 40) (h3 : ∀ u ∈ us, u.bn ≤ 300) : (strOfNums (putL (us.map Ov.op))).size ≤ 20000 := by
  have := putL_less (us.map Ov.op) (fun o ho => by
    obtain ⟨u, hu, rfl⟩ := List.mem_map.1 ho
    obtain ⟨i, hi⟩ := List.mem_iff_getElem?.1 hu
    have h3 := h3 u hu
    have := (h.ok i u hi).len
    omega)
  rw [List.length_map, h.len] at this
  have e : (strOfNums (putL (us.map Ov.op))).size = (putL (us.map Ov.op)).length := by simp [strOfNums, ByteArray.size]
  omega
theorem str_app (xs ys : List Int) : strOfNums (xs ++ ys) = strOfNums xs ++ strOfNums ys := by
  apply ByteArray.ext
  simp [strOfNums]

/-! ### The walk -/
set_option maxRecDepth 20000 in
set_option maxHeartbeats 4000000 in
theorem walk (al : Option Addr) (ll cl : Nat) (l : List Ov) (am : Option Addr) (lm cm : Nat) (m : List Ov) (w : World) (hL0 : Wd w) (hl : Ops w w.heap.size al ll l) (hcl : ll ≤ cl) (hm : Ops w w.heap.size am lm m) (hcm : lm ≤ cm) :
    Calls Tryd.prog 7 #[.slice al ll cl, .slice am lm cm] w fun e w' => e = .returned (.bool true) ∧ Below w.heap.size w w' := by
  have HW := Lib.hid hL0
  clear hL0
  go_enter Tryd.func7, Tryd.ntmps7
  go_wp2_with fail
  refine (awake19_any _ HW.out).mono ?_
  rintro e w1 ⟨rfl, b1⟩
  have L1 := hl.on b1
  have M1 := hm.on b1
  have HF := Lib.hid (refFew19_any al ll cl l _ w1 L1)
  have HG := Lib.hid (refFew19_any am lm cm m _ w1 M1)
  have LO := Lib.hid L1
  have MO := Lib.hid M1
  clear hl hm L1 M1
  go_wp2_with fail
  refine HF.out.mono ?_
  rintro e w2 ⟨r, rfl, rfl, hr⟩
  cases r with
  | false =>
    clear HG
    go_wp2
    go_ret
    exact ⟨rfl, b1⟩
  | true =>
    obtain ⟨h40, h300⟩ := hr rfl
    have Z1 := Lib.hid (few_size LO.out h40 h300)
    clear hr HF h300
    go_wp2_with fail
    refine HG.out.mono ?_
    rintro e w2 ⟨r, rfl, rfl, hr⟩
    cases r with
    | false =>
      go_wp2
      go_ret
      exact ⟨rfl, b1⟩
    | true =>
      obtain ⟨m40, h300⟩ := hr rfl
      have Z2 := Lib.hid (few_size MO.out m40 h300)
      clear hr HG h300
      have PA := put19_any al ll cl l w1 (HW.out.next b1) LO.out (by omega)
      have PB := fun v (hv : Below w1.heap.size w1 v) => put19_any am lm cm m v ((HW.out.next b1).next hv) (MO.out.on hv) (by omega)
      have PC := fun v (a : Option Addr) (c : Nat) (hw : Wd v) (hv : Ops v v.heap.size a (ll + lm) (l ++ m)) => put19_any a (ll + lm) c (l ++ m) v hw hv (by omega)
      unfold PutEnd at PA PB PC
      have hab : ((l ++ m).map Ov.op).all mayO = ((l.map Ov.op).all mayO && (m.map Ov.op).all mayO) := by rw [List.map_append, List.all_append]
      have hpl : 27 * ll ≤ (putL (l.map Ov.op)).length := by have := putL_len (l.map Ov.op); rw [List.length_map, LO.out.len] at this; exact this
      cases hA : (l.map Ov.op).all mayO with
      | false =>
        rw [putOut_no hA] at PA
        rw [hA, Bool.false_and] at hab
        rw [putOut_no hab] at PC
        clear hA
        cases hB : (m.map Ov.op).all mayO with
        | false =>
          rw [putOut_no hB] at PB
          clear hB
          have HA := Lib.hid PA
          have HB := Lib.hid PB
          have HC := Lib.hid PC
          clear PA PB PC hab hpl
          go_wp2_with fail
          refine HA.out.mono ?_
          rintro e w2 ⟨a2, n2, c2, rfl, hc2, x2, f2⟩
          have X2 := Lib.hid x2
          have F2 := Lib.hid f2
          clear x2 f2 HA
          go_wp2_with fail
          refine (HB.out _ F2.out).mono ?_
          rintro e w3 ⟨a3, n3, c3, rfl, hc3, x3, f3⟩
          have F3 := Lib.hid (belowT F2.out f3)
          have X3 := Lib.hid x3
          have Y2 := Lib.hid (X2.out.on f3)
          obtain ⟨v1, v2, wa, wb, aa, ca, r1, r2, rfl, hca, oc, bc⟩ := app_both (k1 := cl) (k2 := cm) (LO.out.on F3.out) (MO.out.on F3.out) (by omega)
          have R1 := Lib.hid r1
          have R2 := Lib.hid r2
          have HC2 := Lib.hid (HC.out wb aa ca (HW.out.next (belowT (belowT b1 F3.out) bc)) oc)
          have BC := Lib.hid bc
          have BF := Lib.hid (belowT b1 F3.out)
          clear x3 f3 X2 F2 F3 r1 r2 oc bc HB HC LO MO b1
          go_wp2_with (first | (refine wpList_append_run (w' := wa) (v := v1) rfl (.tmp 33) (.tmp 34) rfl rfl rfl rfl ?_ ?_; (· exact R1.out)) | (refine wpList_append_run (w' := wb) (v := .slice aa (ll + lm) ca) rfl (.tmp 35) (.tmp 36) rfl rfl rfl rfl ?_ ?_; (· exact R2.out)))
          refine HC2.out.mono ?_
          rintro e w4 ⟨a4, n4, c4, rfl, hc4, x4, f4⟩
          have BG := Lib.hid (belowT BF.out (belowT BC.out f4))
          obtain rfl : n4 = 0 := x4.len.symm
          clear x4 f4 Y2 X3 BC BF HC2 R1 R2
          go_wp2
          go_ret
          exact ⟨rfl, BG.out⟩
        | true =>
          rw [putOut_ok hB] at PB
          clear hB
          have HA := Lib.hid PA
          have HB := Lib.hid PB
          have HC := Lib.hid PC
          clear PA PB PC hab hpl
          go_wp2_with fail
          refine HA.out.mono ?_
          rintro e w2 ⟨a2, n2, c2, rfl, hc2, x2, f2⟩
          have X2 := Lib.hid x2
          have F2 := Lib.hid f2
          clear x2 f2 HA
          go_wp2_with fail
          refine (HB.out _ F2.out).mono ?_
          rintro e w3 ⟨a3, n3, c3, rfl, hc3, x3, f3⟩
          have F3 := Lib.hid (belowT F2.out f3)
          have X3 := Lib.hid x3
          have Y2 := Lib.hid (X2.out.on f3)
          obtain ⟨v1, v2, wa, wb, aa, ca, r1, r2, rfl, hca, oc, bc⟩ := app_both (k1 := cl) (k2 := cm) (LO.out.on F3.out) (MO.out.on F3.out) (by omega)
          have R1 := Lib.hid r1
          have R2 := Lib.hid r2
          have HC2 := Lib.hid (HC.out wb aa ca (HW.out.next (belowT (belowT b1 F3.out) bc)) oc)
          have BC := Lib.hid bc
          have BF := Lib.hid (belowT b1 F3.out)
          clear x3 f3 X2 F2 F3 r1 r2 oc bc HB HC LO MO b1
          go_wp2_with (first | (refine wpList_append_run (w' := wa) (v := v1) rfl (.tmp 33) (.tmp 34) rfl rfl rfl rfl ?_ ?_; (· exact R1.out)) | (refine wpList_append_run (w' := wb) (v := .slice aa (ll + lm) ca) rfl (.tmp 35) (.tmp 36) rfl rfl rfl rfl ?_ ?_; (· exact R2.out)))
          refine HC2.out.mono ?_
          rintro e w4 ⟨a4, n4, c4, rfl, hc4, x4, f4⟩
          have BG := Lib.hid (belowT BF.out (belowT BC.out f4))
          obtain rfl : n4 = 0 := x4.len.symm
          clear x4 f4 Y2 X3 BC BF HC2 R1 R2
          go_wp2
          go_ret
          exact ⟨rfl, BG.out⟩
      | true =>
        rw [putOut_ok hA] at PA
        rw [hA, Bool.true_and] at hab
        cases hB : (m.map Ov.op).all mayO with
        | false =>
          rw [putOut_no hB] at PB
          rw [hB] at hab
          rw [putOut_no hab] at PC
          clear hA hB
          have HA := Lib.hid PA
          have HB := Lib.hid PB
          have HC := Lib.hid PC
          clear PA PB PC hab hpl
          go_wp2_with fail
          refine HA.out.mono ?_
          rintro e w2 ⟨a2, n2, c2, rfl, hc2, x2, f2⟩
          have X2 := Lib.hid x2
          have F2 := Lib.hid f2
          clear x2 f2 HA
          go_wp2_with fail
          refine (HB.out _ F2.out).mono ?_
          rintro e w3 ⟨a3, n3, c3, rfl, hc3, x3, f3⟩
          have F3 := Lib.hid (belowT F2.out f3)
          have X3 := Lib.hid x3
          have Y2 := Lib.hid (X2.out.on f3)
          obtain ⟨v1, v2, wa, wb, aa, ca, r1, r2, rfl, hca, oc, bc⟩ := app_both (k1 := cl) (k2 := cm) (LO.out.on F3.out) (MO.out.on F3.out) (by omega)
          have R1 := Lib.hid r1
          have R2 := Lib.hid r2
          have HC2 := Lib.hid (HC.out wb aa ca (HW.out.next (belowT (belowT b1 F3.out) bc)) oc)
          have BC := Lib.hid bc
          have BF := Lib.hid (belowT b1 F3.out)
          clear x3 f3 X2 F2 F3 r1 r2 oc bc HB HC LO MO b1
          go_wp2_with (first | (refine wpList_append_run (w' := wa) (v := v1) rfl (.tmp 33) (.tmp 34) rfl rfl rfl rfl ?_ ?_; (· exact R1.out)) | (refine wpList_append_run (w' := wb) (v := .slice aa (ll + lm) ca) rfl (.tmp 35) (.tmp 36) rfl rfl rfl rfl ?_ ?_; (· exact R2.out)))
          refine HC2.out.mono ?_
          rintro e w4 ⟨a4, n4, c4, rfl, hc4, x4, f4⟩
          have BG := Lib.hid (belowT BF.out (belowT BC.out f4))
          obtain rfl : n4 = 0 := x4.len.symm
          clear x4 f4 Y2 X3 BC BF HC2 R1 R2
          go_wp2
          go_ret
          exact ⟨rfl, BG.out⟩
        | true =>
          rw [putOut_ok hB] at PB
          rw [hB] at hab
          rw [putOut_ok hab, List.map_append, putL_app] at PC
          have HPL := Lib.hid hpl
          clear hA hB
          have HA := Lib.hid PA
          have HB := Lib.hid PB
          have HC := Lib.hid PC
          clear PA PB PC hab hpl
          go_wp2_with fail
          refine HA.out.mono ?_
          rintro e w2 ⟨a2, n2, c2, rfl, hc2, x2, f2⟩
          have hn2 : 27 * ll ≤ n2 := by have := x2.len; have := HPL.out; omega
          have HN2 := Lib.hid hn2
          clear hn2
          have X2 := Lib.hid x2
          have F2 := Lib.hid f2
          clear x2 f2 HA
          go_wp2_with fail
          refine (HB.out _ F2.out).mono ?_
          rintro e w3 ⟨a3, n3, c3, rfl, hc3, x3, f3⟩
          have F3 := Lib.hid (belowT F2.out f3)
          have X3 := Lib.hid x3
          have Y2 := Lib.hid (X2.out.on f3)
          obtain ⟨v1, v2, wa, wb, aa, ca, r1, r2, rfl, hca, oc, bc⟩ := app_both (k1 := cl) (k2 := cm) (LO.out.on F3.out) (MO.out.on F3.out) (by omega)
          have R1 := Lib.hid r1
          have R2 := Lib.hid r2
          have HC2 := Lib.hid (HC.out wb aa ca (HW.out.next (belowT (belowT b1 F3.out) bc)) oc)
          have BC := Lib.hid bc
          have BF := Lib.hid (belowT b1 F3.out)
          clear x3 f3 X2 F2 F3 r1 r2 oc bc HB HC LO MO b1
          go_wp2_with (first | (refine wpList_append_run (w' := wa) (v := v1) rfl (.tmp 33) (.tmp 34) rfl rfl rfl rfl ?_ ?_; (· exact R1.out)) | (refine wpList_append_run (w' := wb) (v := .slice aa (ll + lm) ca) rfl (.tmp 35) (.tmp 36) rfl rfl rfl rfl ?_ ?_; (· exact R2.out)))
          refine HC2.out.mono ?_
          rintro e w4 ⟨a4, n4, c4, rfl, hc4, x4, f4⟩
          have BG := Lib.hid (belowT BF.out (belowT BC.out f4))
          have Z4 := (Y2.out.on BC.out).on f4
          have Z3 := (X3.out.on BC.out).on f4
          have s4 := string_run (c := c4) x4
          have s2 := string_run (c := c2) Z4
          have s3 := string_run (c := c3) Z3
          rw [str_app] at s4
          have z1 := Z1.out
          have z2 := Z2.out
          have dn : decide (27 * (ll : Int) ≤ (n2 : Int)) = true := decide_eq_true (by have := HN2.out; omega)
          clear x4 f4 Y2 X3 BC BF HC2 R1 R2 Z4 Z3 Z1 Z2
          generalize strOfNums (putL (l.map Ov.op)) = S1 at *
          generalize strOfNums (putL (m.map Ov.op)) = S2 at *
          go_wp2
          go_ret
          exact ⟨rfl, BG.out⟩

/-! ### The frame of the row -/
theorem laid_met (os : Os) : laidMet Tryd.prog Rows.opJoinsRow.laid ((laidWorld os).forCall (fun _ _ => 0) ⟨#[], #[.slice none 0 0, .slice none 0 0], []⟩).memory :=
  laidMet_of_run' 8 (by kernel_rfl) (by kernel_rfl)
theorem reads (os : Os) {H : Type} (enc : TypeId × Value → H) : ∃ places, DataW.whole enc Tryd.prog ((laidWorld os).forCall (fun _ _ => 0) ⟨#[], #[.slice none 0 0, .slice none 0 0], []⟩).memory Tryd.f7.params.toList Rows.opJoinsSpec.vars false (#[.slice none 0 0, .slice none 0 0] : Array Value).toList 8 = some ([.nil, .nil], [], places) :=
  ⟨[], by kernel_rfl⟩
set_option maxRecDepth 100000 in
theorem lifted (os : Os) (started : os.Started) (H : Type) (enc : TypeId × Value → H) (F : Stop.Interp) :
    ReturnsInHanded {} Tryd.checked os 7 .any ((OpenSpec.ofChange Rows.opJoinsSpec).preRow enc Tryd.prog Tryd.f7 Rows.opJoinsRow.domain false Rows.opJoinsRow.laid) (((OpenSpec.ofChange Rows.opJoinsSpec).at F).post enc Tryd.prog Tryd.f7 false true false false) := by
  obtain ⟨places, hx⟩ := reads os enc
  refine returnsInHanded_of_row (C := Tryd.checked) (s := OpenSpec.ofChange Rows.opJoinsSpec) own started (by kernel_rfl) Tryd.func7
    (witness_row_at (enc := enc) (C := Tryd.checked) false (laidWorld os) #[.slice none 0 0, .slice none 0 0] rfl (by kernel_rfl) (by kernel_rfl) (by kernel_rfl)
      (OpenSpec.preRow_of_cond 8 hx (by kernel_rfl) (fun k hk => by cases hk) (by kernel_rfl) (laid_met os))) ?_
  intro W base args ds gs before hval0 hW _ _ _ hL _ _
  have hval : ∀ (j : Nat) t v, Tryd.f7.params[j]? = some t → args[j]? = some v → Value.okWide Tryd.prog W .any base t v := hval0
  have hW' := hW
  obtain ⟨p, q, hA0, hV, rfl, hfz, hnd⟩ := hW
  have hA : DataW.TrodAll enc Tryd.prog W 0 (fun _ => true) true Tryd.f7.params.toList args.toList ds p := hA0
  rw [Tryd.params7] at hA hval
  obtain ⟨v0, vs0, d0, ds0, p0, q0, hargs, rfl, rfl, h0, r0⟩ := trodAll_cons hA
  obtain ⟨v1, vs1, d1, ds1, p1, q1, rfl, rfl, rfl, h1, r1⟩ := trodAll_cons r0
  obtain ⟨rfl, rfl, rfl⟩ := trodAll_nil r1
  obtain rfl : args = #[v0, v1] := by cases args; simp_all
  obtain ⟨rfl, rfl⟩ := trodVars_none hV
  have k0 := h0
  have lt0 : ∀ x ∈ p0, x.block < W.heap.size := by obtain ⟨m, hm⟩ := k0; exact DataW.trod_lt m _ _ _ hm
  obtain ⟨al, ll, cl, rfl⟩ := okWide_slice Tryd.underlying22 (hval 0 22 v0 rfl rfl)
  obtain ⟨l, hcl, hl⟩ : ∃ xs, ll ≤ cl ∧ Ops W W.heap.size al ll xs := by
    obtain ⟨fuel, hf⟩ := h0
    obtain ⟨a, l, c, xs, e, hl, hi⟩ := ops_field (by simpa [Value.cells] using hf)
    injection e with e1 e2 e3
    subst e1 e2 e3
    exact ⟨xs, hl, hi⟩
  have k1 := h1
  have lt1 : ∀ x ∈ p1, x.block < W.heap.size := by obtain ⟨m, hm⟩ := k1; exact DataW.trod_lt m _ _ _ hm
  obtain ⟨am, lm, cm, rfl⟩ := okWide_slice Tryd.underlying22 (hval 1 22 v1 rfl rfl)
  obtain ⟨m, hcm, hm⟩ : ∃ xs, lm ≤ cm ∧ Ops W W.heap.size am lm xs := by
    obtain ⟨fuel, hf⟩ := h1
    obtain ⟨a, l, c, xs, e, hl, hi⟩ := ops_field (by simpa [Value.cells] using hf)
    injection e with e1 e2 e3
    subst e1 e2 e3
    exact ⟨xs, hl, hi⟩
  clear hA0 hval0
  refine (walk al ll cl l am lm cm m W (wd_of hL) hl hcl hm hcm).mono fun e W' ⟨he, bel⟩ => ?_
  subst he
  exact ⟨_, rfl, _, _, _, [], _, [], hW', trodAll_mk1 (shut_bool Tryd.underlying4 _), (trodAll_cons_mk (Below.trod laidOut (by kernel_rfl) (of_decide_eq_true (by kernel_rfl)) k0 bel lt0) (trodAll_cons_mk (Below.trod laidOut (by kernel_rfl) (of_decide_eq_true (by kernel_rfl)) k1 bel lt1) trodAll_mk0)), rfl, bel.frame _, fun h => by cases h⟩

theorem said : Rows.OpJoinsSaid :=
  OpenClaim.holds_of_cond 7 Tryd.f7 rfl rfl rfl rfl rfl rfl rfl ⟨rfl, rfl, rfl, rfl, rfl⟩ rfl rfl rfl rfl rfl (by kernel_rfl) Tryd.func7 (by kernel_rfl)
    (of_decide_eq_true (by kernel_rfl)) (by unfold Func.isWrapper; first | (rw [if_pos (by decide +kernel)]; kernel_rfl) | (rw [if_neg (by decide +kernel)]; exact ⟨rfl, rfl⟩))
    (fun os started H enc _ F => by rw [OpenClaim.pre_eq_preRow]; exact lifted os started H enc F)

theorem plain (f : FuncId) (fn : Func) (hf : Tryd.pinned.checked.prog.funcNamed "almery/almerylaw19.OpJoins" = some f) (hfn : Tryd.pinned.checked.prog.funcs[f]? = some fn) :
    false = Tryd.pinned.checked.prog.looks [] ∧ ∀ (j : Nat) t, fn.params[j]? = some t → Tryd.pinned.checked.prog.wantsStandIn t = false := by
  obtain rfl : f = 7 := Option.some.inj ((show Tryd.prog.funcNamed "almery/almerylaw19.OpJoins" = some 7 by kernel_rfl).symm.trans hf) |>.symm
  obtain rfl : fn = Tryd.f7 := (Option.some.inj (Tryd.func7.symm.trans hfn)).symm
  refine ⟨by kernel_rfl, fun j t ht => ?_⟩
  rw [Tryd.params7] at ht
  match j, ht with
  | 0, ht =>
    obtain rfl : t = 22 := by simpa using ht.symm
    exact (show Tryd.prog.wantsStandIn 22 = false by kernel_rfl)
  | 1, ht =>
    obtain rfl : t = 22 := by simpa using ht.symm
    exact (show Tryd.prog.wantsStandIn 22 = false by kernel_rfl)
  | j + 2, ht => simp at ht

theorem proved : Rows.OpJoinsCardSaid :=
  Claim7.holds_tied_plain_at .later [] _ _ _ _ said (fun _ h => by cases h) (by kernel_rfl) (fun _ h => by cases h) opJoins_row_tie rfl ⟨rfl, rfl⟩ (by kernel_rfl) rfl plain (by kernel_rfl)
#print axioms proved
end Go.Proofs.YtjnnblcafocdoaaDoor.opJoins
