/-
  almerylaw19.OpBack returns true for every slice of operations and every number of 16 bits, and all memory that was there is as it was. No condition.
-/
import Derived.Test.YtjnnblcafocdoaaDoorRows
import Derived.Test.YtjnnblcafocdoaaDoorCards
import Derived.Test.YtjnnblcafocdoaaDoorTie
import Derived.Deep.DeepHandedRow
import Derived.SevenTiedAt
import Derived.WalkKit
import Derived.ProofKit
import Derived.OpenShut
import Derived.Test.YtjnnblcafocdoaaDoorOpAwake
import Derived.Test.YtjnnblcafocdoaaDoorOpSame
import Derived.Test.YtjnnblcafocdoaaDoorOpWays
import Derived.Test.YtjnnblcafocdoaaDoorWf
import Derived.Test.YtjnnblcafocdoaaDoorOpLaid
import Derived.ShutString
import Derived.ChangeOld
import Derived.Below
namespace Go.Proofs.YtjnnblcafocdoaaDoor.opBack
open Go.ChangeShapes Go.WideShapes Go.ChangeAt Go.RowKit
open Go.ChangeMaps (open_string shut_string)
set_option linter.unusedVariables false

theorem own : ownKnob Tryd.prog.godebug = none := by kernel_rfl
theorem laidOut : laidOutB Tryd.prog = true := by kernel_rfl

theorem putL_less : ∀ l : List Opn, (∀ o ∈ l, o.bs.length ≤ 300) → (putL l).length ≤ 327 * l.length
  | [], _ => by simp [putL]
  | o :: r, h => by
    have h1 := h o (by simp)
    have h2 := putL_less r (fun x hx => h x (by simp [hx]))
    rw [putL_cons, List.length_append, oneL_len, List.length_cons]
    omega
theorem putOut_no {l : List Opn} (h : l.all mayO = false) : putOut l = ([], 2) := by unfold putOut; rw [if_neg (by rw [h]; simp)]

/-! ### The walk -/
set_option maxRecDepth 20000 in
set_option maxHeartbeats 4000000 in
theorem walk (al : Option Addr) (ll cl : Nat) (l : List Ov) (k : Int) (w : World) (hL0 : Wd w) (hl : Ops w w.heap.size al ll l) (hcl : ll ≤ cl) (hk : (Lit.int .u16 k).wf = true) :
    Calls Tryd.prog 5 #[.slice al ll cl, .int .u16 k] w fun e w' => e = .returned (.bool true) ∧ Below w.heap.size w w' := by
  have HW := Lib.hid hL0
  clear hL0
  have hk2 := wfu16 hk
  clear hk
  go_enter Tryd.func5, Tryd.ntmps5
  go_wp2_with fail
  refine (awake19_any _ HW.out).mono ?_
  rintro e w1 ⟨rfl, b1⟩
  have L1 := hl.on b1
  have HF := Lib.hid (refFew19_any al ll cl l _ w1 L1)
  go_wp2_with fail
  refine HF.out.mono ?_
  rintro e w2 ⟨r, rfl, rfl, hr⟩
  cases r with
  | false =>
    go_wp2
    go_ret
    exact ⟨rfl, b1⟩
  | true =>
    obtain ⟨h40, h300⟩ := hr rfl
    have HP := put19_any al ll cl l w1 (HW.out.next b1) L1 (by omega)
    unfold PutEnd at HP
    cases hall : (l.map Ov.op).all mayO with
    | false =>
      rw [putOut_no hall] at HP
      have H := Lib.hid HP
      clear hl HF L1 hr HP hall h300
      go_wp2_with fail
      refine H.out.mono ?_
      rintro e w2 ⟨a2, n2, c2, rfl, hc2, x2, f2⟩
      obtain rfl : n2 = 0 := x2.len.symm
      have BF := Lib.hid (belowT b1 f2)
      clear x2 f2 b1 H
      go_wp2
      go_ret
      exact ⟨rfl, BF.out⟩
    | true =>
      have AO := AllO.of L1.fit hall
      have HTK := Lib.hid (take_all (take_put AO))
      have hlen : (putL (l.map Ov.op)).length ≤ 20000 := by
        have := putL_less (l.map Ov.op) (fun o ho => by
          obtain ⟨u, hu, rfl⟩ := List.mem_map.1 ho
          obtain ⟨i, hi⟩ := List.mem_iff_getElem?.1 hu
          have h3 := h300 u hu
          have := (L1.ok i u hi).len
          omega)
        rw [List.length_map, L1.len] at this
        omega
      rw [put_all AO] at HP
      have H := Lib.hid HP
      have LO := Lib.hid L1
      have HLN := Lib.hid hlen
      clear hl HF L1 hr HP hall h300 AO hlen
      generalize putL (l.map Ov.op) = B at *
      go_wp2_with fail
      refine H.out.mono ?_
      rintro e w2 ⟨a2, n2, c2, rfl, hc2, x2, f2⟩
      have hn2 : n2 ≤ 20000 := by have := x2.len; have := HLN.out; omega
      have HT := take19_any a2 n2 c2 B w2 (HW.out.next (belowT b1 f2)) x2 hc2 (by omega)
      unfold TakeEnd at HT
      rw [HTK.out] at HT
      have H2 := Lib.hid HT
      have X2 := Lib.hid x2
      have B2 := Lib.hid (belowT b1 f2)
      have L2 := Lib.hid (LO.out.on f2)
      clear x2 f2 b1 H HT LO
      go_wp2_with fail
      refine H2.out.mono ?_
      rintro e w3 ⟨a3, n3, c3, us, rfl, hc3, o3, e3, f3⟩
      obtain ⟨p, hp⟩ : ∃ p : Nat, (p : Int) = k % ((n2 : Int) + 1) := ⟨(k % ((n2 : Int) + 1)).toNat, by have := Int.emod_nonneg k (show (n2 : Int) + 1 ≠ 0 by omega); omega⟩
      have hpn : p ≤ n2 := by have := Int.emod_lt_of_pos k (show 0 < (n2 : Int) + 1 by omega); omega
      have hz : ((n2 : Int) + 1 == 0) = false := by simp; omega
      have hmod : Int.tmod k ((n2 : Int) + 1) = (p : Int) := by rw [Int.tmod_eq_emod_of_nonneg hk2.1, hp]
      have hpc : p ≤ c2 := by omega
      have hcut : ∀ v, (Instr.sliceAt 25 (.slice a2 n2 c2) none (some (.int .i64 (p : Int))) none).run Tryd.prog v = .ok (.slice a2 p c2) v := fun v => cut_first hpc v
      have X3 := Lib.hid (X2.out.on f3)
      have L3 := Lib.hid (L2.out.on f3)
      have O3 := Lib.hid o3
      have E3 := Lib.hid e3
      have B3 := Lib.hid (belowT B2.out f3)
      have HT2 := take19_any a2 p c2 (B.take p) w3 (HW.out.next B3.out) (X3.out.first hpn) hpc (by omega)
      have HPO := Lib.hid hp
      clear o3 e3 f3 H2 X2 L2 B2 hp
      have hlp : (B.take p).length = p := by have := X3.out.len; rw [List.length_take]; omega
      have HS := Lib.hid (fun v (hv : Below w3.heap.size w3 v) q => refSame19_quiet a3 al n3 c3 ll cl us l v (O3.out.on hv) (L3.out.on hv) E3.out q)
      unfold TakeEnd at HT2
      rcases take_ways (X3.out.fit.take p) with ⟨lx, t1, t2, t3, t4, t5⟩ | ⟨q, lx, t1, t2, _, _, _, _, _⟩
      · rw [t1] at HT2
        have H2 := Lib.hid HT2
        have T4 := Lib.hid t4
        have ln : lx.length ≤ 1000 := by omega
        clear HT2 t1 t2 t3 t4 t5 hlp
        go_wp2_with fail
        refine H2.out.mono ?_
        rintro e w4 ⟨a4, n4, c4, vs, rfl, hc4, o4, e4, f4⟩
        have hn4 : n4 ≤ 1000 := by have := congrArg List.length e4; rw [List.length_map, o4.len] at this; omega
        have HP := put19_any a4 n4 c4 vs w4 (HW.out.next (belowT B3.out f4)) o4 hn4
        unfold PutEnd at HP
        rw [show vs.map Ov.op = lx from e4, T4.out] at HP
        have HP2 := Lib.hid HP
        have F4 := Lib.hid f4
        clear HP o4 e4 f4 hn4 H2 T4
        go_wp2_with fail
        refine HP2.out.mono ?_
        rintro e w5 ⟨a5, n5, c5, rfl, hc5, x5, f5⟩
        have F5 := Lib.hid (belowT F4.out f5)
        have X5 := ((X3.out.first hpn).on F4.out).on f5
        have s2 : ∀ i, (convert 25 9 (.slice a2 p c2)).run Tryd.prog (w5.drewN i) = .ok (.string (strOfNums (B.take p))) (w5.drewN i) := fun i => string_run (X5.drewN i)
        have s3 : ∀ i, (convert 25 9 (.slice a5 n5 c5)).run Tryd.prog (w5.drewN i) = .ok (.string (strOfNums (B.take p))) (w5.drewN i) := fun i => string_run (x5.drewN i)
        have BF := Lib.hid (belowT B3.out F5.out)
        have HS5 := Lib.hid (HS.out w5 F5.out)
        clear x5 f5 X5 F4 F5 HP2 HS B3 X3 L3 O3 E3
        generalize strOfNums (B.take p) = SS at *
        go_wp2_with fail
        go_quiet ((go_at_call 14; exact HS5.out _))
        go_wp2
        go_ret
        exact ⟨rfl, belowN BF.out _⟩
      · rw [t1] at HT2
        have H2 := Lib.hid HT2
        have hqp : q < p := by omega
        have dq : decide ((q : Int) < (p : Int)) = true := decide_eq_true (by omega)
        clear HT2 t1 t2 hlp
        go_wp2_with fail
        refine H2.out.mono ?_
        rintro e w4 ⟨a4, n4, c4, vs, rfl, hc4, o4, e4, f4⟩
        have BF := Lib.hid (belowT B3.out f4)
        have HS4 := Lib.hid (HS.out w4 f4 0)
        clear o4 e4 f4 HS B3 X3 L3 O3 E3 H2
        go_wp2_with fail
        refine HS4.out.mono ?_
        rintro e w5 ⟨rfl, j5, rfl⟩
        go_wp2
        go_ret
        exact ⟨rfl, belowN BF.out _⟩

/-! ### The frame of the row -/
theorem laid_met (os : Os) : laidMet Tryd.prog Rows.opBackRow.laid ((laidWorld os).forCall (fun _ _ => 0) ⟨#[], #[.slice none 0 0, .int .u16 0], []⟩).memory :=
  laidMet_of_run' 8 (by kernel_rfl) (by kernel_rfl)
theorem reads (os : Os) {H : Type} (enc : TypeId × Value → H) : ∃ places, DataW.whole enc Tryd.prog ((laidWorld os).forCall (fun _ _ => 0) ⟨#[], #[.slice none 0 0, .int .u16 0], []⟩).memory Tryd.f5.params.toList Rows.opBackSpec.vars false (#[.slice none 0 0, .int .u16 0] : Array Value).toList 8 = some ([.nil, .lit (.int .u16 0)], [], places) :=
  ⟨[], by kernel_rfl⟩
set_option maxRecDepth 100000 in
theorem lifted (os : Os) (started : os.Started) (H : Type) (enc : TypeId × Value → H) (F : Stop.Interp) :
    ReturnsInHanded {} Tryd.checked os 5 .any ((OpenSpec.ofChange Rows.opBackSpec).preRow enc Tryd.prog Tryd.f5 Rows.opBackRow.domain false Rows.opBackRow.laid) (((OpenSpec.ofChange Rows.opBackSpec).at F).post enc Tryd.prog Tryd.f5 false true false false) := by
  obtain ⟨places, hx⟩ := reads os enc
  refine returnsInHanded_of_row (C := Tryd.checked) (s := OpenSpec.ofChange Rows.opBackSpec) own started (by kernel_rfl) Tryd.func5
    (witness_row_at (enc := enc) (C := Tryd.checked) false (laidWorld os) #[.slice none 0 0, .int .u16 0] rfl (by kernel_rfl) (by kernel_rfl) (by kernel_rfl)
      (OpenSpec.preRow_of_cond 8 hx (by kernel_rfl) (fun k hk => by cases hk) (by kernel_rfl) (laid_met os))) ?_
  intro W base args ds gs before hval0 hW _ _ _ hL _ _
  have hval : ∀ (j : Nat) t v, Tryd.f5.params[j]? = some t → args[j]? = some v → Value.okWide Tryd.prog W .any base t v := hval0
  have hW' := hW
  obtain ⟨p, q, hA0, hV, rfl, hfz, hnd⟩ := hW
  have hA : DataW.TrodAll enc Tryd.prog W 0 (fun _ => true) true Tryd.f5.params.toList args.toList ds p := hA0
  rw [Tryd.params5] at hA hval
  obtain ⟨v0, vs0, d0, ds0, p0, q0, hargs, rfl, rfl, h0, r0⟩ := trodAll_cons hA
  obtain ⟨v1, vs1, d1, ds1, p1, q1, rfl, rfl, rfl, h1, r1⟩ := trodAll_cons r0
  obtain ⟨rfl, rfl, rfl⟩ := trodAll_nil r1
  obtain rfl : args = #[v0, v1] := by cases args; simp_all
  obtain ⟨rfl, rfl⟩ := trodVars_none hV
  have k0 := h0
  have lt0 : ∀ x ∈ p0, x.block < W.heap.size := by obtain ⟨m, hm⟩ := k0; exact DataW.trod_lt m _ _ _ hm
  obtain ⟨al, ll, cl, rfl⟩ := okWide_slice Tryd.underlying22 (hval 0 22 v0 rfl rfl)
  obtain ⟨l, hcl, hl⟩ : ∃ xs, ll ≤ cl ∧ Ops W W.heap.size al ll xs := by
    obtain ⟨fuel, hf⟩ := h0
    obtain ⟨a, l, c, xs, e, hl, hi⟩ := ops_field (by simpa [Value.cells] using hf)
    injection e with e1 e2 e3
    subst e1 e2 e3
    exact ⟨xs, hl, hi⟩
  obtain ⟨k, rfl, rfl, rfl, hk⟩ := open_int Tryd.underlying37 (hval 1 37 v1 rfl rfl) h1
  clear hA0 hval0
  refine (walk al ll cl l k W (wd_of hL) hl hcl hk).mono fun e W' ⟨he, bel⟩ => ?_
  subst he
  exact ⟨_, rfl, _, _, _, [], _, [], hW', trodAll_mk1 (shut_bool Tryd.underlying4 _), (trodAll_cons_mk (Below.trod laidOut (by kernel_rfl) (of_decide_eq_true (by kernel_rfl)) k0 bel lt0) (trodAll_cons_mk (shut_int Tryd.underlying37 hk) trodAll_mk0)), rfl, bel.frame _, fun h => by cases h⟩

theorem said : Rows.OpBackSaid :=
  OpenClaim.holds_of_cond 5 Tryd.f5 rfl rfl rfl rfl rfl rfl rfl ⟨rfl, rfl, rfl, rfl, rfl⟩ rfl rfl rfl rfl rfl (by kernel_rfl) Tryd.func5 (by kernel_rfl)
    (of_decide_eq_true (by kernel_rfl)) (by unfold Func.isWrapper; first | (rw [if_pos (by decide +kernel)]; kernel_rfl) | (rw [if_neg (by decide +kernel)]; exact ⟨rfl, rfl⟩))
    (fun os started H enc _ F => by rw [OpenClaim.pre_eq_preRow]; exact lifted os started H enc F)

theorem plain (f : FuncId) (fn : Func) (hf : Tryd.pinned.checked.prog.funcNamed "almery/almerylaw19.OpBack" = some f) (hfn : Tryd.pinned.checked.prog.funcs[f]? = some fn) :
    false = Tryd.pinned.checked.prog.looks [] ∧ ∀ (j : Nat) t, fn.params[j]? = some t → Tryd.pinned.checked.prog.wantsStandIn t = false := by
  obtain rfl : f = 5 := Option.some.inj ((show Tryd.prog.funcNamed "almery/almerylaw19.OpBack" = some 5 by kernel_rfl).symm.trans hf) |>.symm
  obtain rfl : fn = Tryd.f5 := (Option.some.inj (Tryd.func5.symm.trans hfn)).symm
  refine ⟨by kernel_rfl, fun j t ht => ?_⟩
  rw [Tryd.params5] at ht
  match j, ht with
  | 0, ht =>
    obtain rfl : t = 22 := by simpa using ht.symm
    exact (show Tryd.prog.wantsStandIn 22 = false by kernel_rfl)
  | 1, ht =>
    obtain rfl : t = 37 := by simpa using ht.symm
    exact (show Tryd.prog.wantsStandIn 37 = false by kernel_rfl)
  | j + 2, ht => simp at ht

theorem proved : Rows.OpBackCardSaid :=
  Claim7.holds_tied_plain_at .later [] _ _ _ _ said (fun _ h => by cases h) (by kernel_rfl) (fun _ h => by cases h) opBack_row_tie rfl ⟨rfl, rfl⟩ (by kernel_rfl) rfl plain (by kernel_rfl)
#print axioms proved
end Go.Proofs.YtjnnblcafocdoaaDoor.opBack
