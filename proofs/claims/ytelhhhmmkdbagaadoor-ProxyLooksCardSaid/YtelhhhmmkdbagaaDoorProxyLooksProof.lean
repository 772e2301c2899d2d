/-
  ProxyLooks: of any handle, whatever was taken, and given back: its slot, or what is wrong. The bounds of package ident stand as its text lays them (a tied card). No other condition.
-/
import Derived.Test.YtelhhhmmkdbagaaDoorRows
import Derived.Test.YtelhhhmmkdbagaaDoorCards
import Derived.Test.YtelhhhmmkdbagaaDoorTie
import Derived.Deep.DeepHandedRow
import Derived.SevenTiedAt
import Derived.WalkKit
import Derived.ProofKit
import Derived.OpenShut
import Derived.Test.YtelhhhmmkdbagaaDoorProxyAwake
import Derived.Test.YtelhhhmmkdbagaaDoorProxyRunAny
import Derived.Test.YtelhhhmmkdbagaaDoorIdentLaid
import Derived.ShutString
import Derived.ChangeOld
import Derived.Below
namespace Go.Proofs.YtelhhhmmkdbagaaDoor.proxyLooks
open Go.ChangeShapes Go.WideShapes Go.ChangeAt Go.RowKit
open Go.ChangeMaps (open_string shut_string)
set_option linter.unusedVariables false

theorem own : ownKnob Tryd.prog.godebug = none := by kernel_rfl
theorem laidOut : laidOutB Tryd.prog = true := by kernel_rfl

/-! ### The walk -/
set_option maxRecDepth 20000 in
set_option maxHeartbeats 2000000 in
theorem walk (n0 n1 : Int) (al : Option Addr) (ll cl : Nat) (l : List Ac) (h : Int) (w : World) (hL0 : Bd w) (hn0 : 0 ≤ n0 ∧ n0 ≤ 255) (hn1 : 0 ≤ n1 ∧ n1 ≤ 255) (hl : Acts w w.heap.size al ll l) (hcl : ll ≤ cl) (hh : (Lit.int .i64 h).wf = true) :
    Calls Tryd.prog 5 #[.agg #[.int .u8 n0, .int .u8 n1], .slice al ll cl, .int .i64 h] w fun e w' => e = .returned (.bool true) ∧ Below w.heap.size w w' := by
  have l12 := wf_i64 hh
  have hpos := hL0.pos
  have hbx := below1 w (.cells #[.int .u8 n0, .int .u8 n1] 22)
  have A := Lib.hid (awake10_any (w.alloc (.cells #[.int .u8 n0, .int .u8 n1] 22)) (hL0.below hpos hbx))
  have HBD := Lib.hid (hL0.below hpos hbx)
  have HX := Lib.hid hbx
  have HN : Hid ((w.alloc (.cells #[.int .u8 n0, .int .u8 n1] 22)).cell? ⟨w.heap.size, 0, none⟩ = some (.int .u8 n0) ∧ (w.alloc (.cells #[.int .u8 n0, .int .u8 n1] 22)).cell? ⟨w.heap.size, 1, none⟩ = some (.int .u8 n1)) := Lib.hid ⟨by go_simp, by go_simp⟩
  have hmax := hl.max
  obtain ⟨K, hK⟩ : ∃ K : Nat, 1 + n0 % 8 = (K : Int) := ⟨(1 + n0 % 8).toNat, by omega⟩
  obtain ⟨M, hM⟩ : ∃ M : Int, 1 + n1 % 4 = M := ⟨_, rfl⟩
  have HK := Lib.hid hK
  have HM := Lib.hid hM
  clear hL0 hh hbx hK hM
  go_enter Tryd.func5, Tryd.ntmps5
  go_wp2_with fail
  refine A.out.mono ?_
  rintro e w0 ⟨rfl, h0⟩
  have H0 := Lib.hid (belowT HX.out h0)
  have BD0 := Lib.hid (HBD.out.below HBD.out.pos h0)
  have x0 := (h0.cell (p := ⟨w.heap.size, 0, none⟩) (lt_of_cell (p := ⟨w.heap.size, 0, none⟩) HN.out.1)).trans HN.out.1
  have x1 := (h0.cell (p := ⟨w.heap.size, 1, none⟩) (lt_of_cell (p := ⟨w.heap.size, 1, none⟩) HN.out.2)).trans HN.out.2
  clear h0 A
  by_cases hll : 40 < ll
  · have d1 : decide ((40 : Int) < (ll : Int)) = true := by simp; omega
    go_wp2
    go_ret
    exact ⟨rfl, H0.out⟩
  have d1 : decide ((40 : Int) < (ll : Int)) = false := by simp; omega
  have HR := Lib.hid (run10_any n0 n1 hn0 hn1 K M HK.out HM.out al ll cl l w.heap.size w0 H0.out.size (hl.below H0.out) BD0.out)
  go_wp2_with fail
  refine HR.out.mono ?_
  rintro e w2 ⟨p, a, T, ga, gc, la, lc, fa, fc, n', P, rfl, m2, r2, b2, _, _⟩
  have hb3 := below1 w2 (.cells #[.slice ga K gc, .slice la K lc, .slice fa n' fc, .int .i64 M] 29)
  have M3 := Lib.hid (m2.below hb3)
  have R3 := Lib.hid (r2.on hb3)
  have B3 := Lib.hid (belowT (belowT H0.out b2) hb3)
  have X3 := Lib.hid (Bv.new w2 (.slice ga K gc) (.slice la K lc) (.slice fa n' fc) (.int .i64 M))
  clear m2 r2 b2 hb3 HR x0 x1
  have LK := Lib.hid (look_any M3.out (n := h) l12.1 l12.2)
  go_wp2_with fail
  generalize w2.alloc (.cells #[.slice ga K gc, .slice la K lc, .slice fa n' fc, .int .i64 M] 29) = w3 at M3 R3 B3 X3 LK ⊢
  generalize w2.heap.size = g at X3 ⊢
  refine LK.out.mono ?_
  rintro e w4 ⟨rfl, b4⟩
  have LR := Lib.hid (refLook_any (M := M) (R3.out.on b4) M3.out.wf h l12.1 l12.2)
  have B4 := Lib.hid (belowT B3.out b4)
  obtain ⟨p0, p1, p2, p3, pf0, pf1, pf2, pf3⟩ := X3.out.below b4
  generalize lookOut T h = y at LR ⊢
  clear b4 LK
  go_wp2_with fail
  refine LR.out.mono ?_
  rintro e w5 ⟨rfl, b5⟩
  have B5 := Lib.hid (belowT B4.out b5)
  have e1 : (y.1 == y.1) = true := by simp
  have e2 : (y.2 == y.2) = true := by simp
  clear b5 p0 p1 p2 p3 pf0 pf1 pf2 pf3
  go_wp2
  go_ret
  exact ⟨rfl, B5.out⟩

/-! ### The frame of the row -/
theorem laid_met (os : Os) : laidMet Tryd.prog Rows.proxyLooksRow.laid ((laidWorld os).forCall (fun _ _ => 0) ⟨#[], #[.agg #[.int .u8 0, .int .u8 0], .slice none 0 0, .int .i64 0], []⟩).memory :=
  laidMet_of_run' 8 (by kernel_rfl) (by kernel_rfl)
theorem reads (os : Os) {H : Type} (enc : TypeId × Value → H) : ∃ places, DataW.whole enc Tryd.prog ((laidWorld os).forCall (fun _ _ => 0) ⟨#[], #[.agg #[.int .u8 0, .int .u8 0], .slice none 0 0, .int .i64 0], []⟩).memory Tryd.f5.params.toList Rows.proxyLooksSpec.vars false (#[.agg #[.int .u8 0, .int .u8 0], .slice none 0 0, .int .i64 0] : Array Value).toList 8 = some ([.agg [.lit (.int .u8 0), .lit (.int .u8 0)], .nil, .lit (.int .i64 0)], [], places) :=
  ⟨[], by kernel_rfl⟩
set_option maxRecDepth 100000 in
theorem lifted (os : Os) (started : os.Started) (H : Type) (enc : TypeId × Value → H) (F : Stop.Interp) :
    ReturnsInHanded {} Tryd.checked os 5 .any ((OpenSpec.ofChange Rows.proxyLooksSpec).preRow enc Tryd.prog Tryd.f5 Rows.proxyLooksRow.domain false Rows.proxyLooksRow.laid) (((OpenSpec.ofChange Rows.proxyLooksSpec).at F).post enc Tryd.prog Tryd.f5 false true false false) := by
  obtain ⟨places, hx⟩ := reads os enc
  refine returnsInHanded_of_row (C := Tryd.checked) (s := OpenSpec.ofChange Rows.proxyLooksSpec) own started (by kernel_rfl) Tryd.func5
    (witness_row_at (enc := enc) (C := Tryd.checked) false (laidWorld os) #[.agg #[.int .u8 0, .int .u8 0], .slice none 0 0, .int .i64 0] rfl (by kernel_rfl) (by kernel_rfl) (by kernel_rfl)
      (OpenSpec.preRow_of_cond 8 hx (by kernel_rfl) (fun k hk => by cases hk) (by kernel_rfl) (laid_met os))) ?_
  intro W base args ds gs before hval0 hW _ _ _ hL _ _
  have hval : ∀ (j : Nat) t v, Tryd.f5.params[j]? = some t → args[j]? = some v → Value.okWide Tryd.prog W .any base t v := hval0
  have hW' := hW
  obtain ⟨p, q, hA0, hV, rfl, hfz, hnd⟩ := hW
  have hA : DataW.TrodAll enc Tryd.prog W 0 (fun _ => true) true Tryd.f5.params.toList args.toList ds p := hA0
  rw [Tryd.params5] at hA hval
  obtain ⟨v0, vs0, d0, ds0, p0, q0, hargs, rfl, rfl, h0, r0⟩ := trodAll_cons hA
  obtain ⟨v1, vs1, d1, ds1, p1, q1, rfl, rfl, rfl, h1, r1⟩ := trodAll_cons r0
  obtain ⟨v2, vs2, d2, ds2, p2, q2, rfl, rfl, rfl, h2, r2⟩ := trodAll_cons r1
  obtain ⟨rfl, rfl, rfl⟩ := trodAll_nil r2
  obtain rfl : args = #[v0, v1, v2] := by cases args; simp_all
  obtain ⟨rfl, rfl⟩ := trodVars_none hV
  have k0 := h0
  have lt0 : ∀ x ∈ p0, x.block < W.heap.size := by obtain ⟨m, hm⟩ := k0; exact DataW.trod_lt m _ _ _ hm
  obtain ⟨n0, n1, rfl, hn0, hn1⟩ := open_two (hval 0 22 v0 rfl rfl) h0
  have k1 := h1
  have lt1 : ∀ x ∈ p1, x.block < W.heap.size := by obtain ⟨m, hm⟩ := k1; exact DataW.trod_lt m _ _ _ hm
  obtain ⟨al, ll, cl, rfl⟩ := okWide_slice Tryd.underlying23 (hval 1 23 v1 rfl rfl)
  obtain ⟨l, hcl, hl⟩ : ∃ xs, ll ≤ cl ∧ Acts W W.heap.size al ll xs := by
    obtain ⟨fuel, hf⟩ := h1
    obtain ⟨a, l, c, xs, e, hl, hi⟩ := acts_field (by simpa [Value.cells] using hf)
    injection e with e1 e2 e3
    subst e1 e2 e3
    exact ⟨xs, hl, hi⟩
  obtain ⟨h, rfl, rfl, rfl, hh⟩ := open_int Tryd.underlying3 (hval 2 3 v2 rfl rfl) h2
  clear hA0 hval0
  refine (walk n0 n1 al ll cl l h W (bd_of hL) hn0 hn1 hl hcl hh).mono fun e W' ⟨he, bel⟩ => ?_
  subst he
  exact ⟨_, rfl, _, _, _, [], _, [], hW', trodAll_mk1 (shut_bool Tryd.underlying4 _), (trodAll_cons_mk (Below.trod laidOut (by kernel_rfl) (of_decide_eq_true (by kernel_rfl)) k0 bel lt0) (trodAll_cons_mk (Below.trod laidOut (by kernel_rfl) (of_decide_eq_true (by kernel_rfl)) k1 bel lt1) (trodAll_cons_mk (shut_int Tryd.underlying3 hh) trodAll_mk0))), rfl, bel.frame _, fun h => by cases h⟩

theorem said : Rows.ProxyLooksSaid :=
  OpenClaim.holds_of_cond 5 Tryd.f5 rfl rfl rfl rfl rfl rfl rfl ⟨rfl, rfl, rfl, rfl, rfl⟩ rfl rfl rfl rfl rfl (by kernel_rfl) Tryd.func5 (by kernel_rfl)
    (of_decide_eq_true (by kernel_rfl)) (by unfold Func.isWrapper; first | (rw [if_pos (by decide +kernel)]; kernel_rfl) | (rw [if_neg (by decide +kernel)]; exact ⟨rfl, rfl⟩))
    (fun os started H enc _ F => by rw [OpenClaim.pre_eq_preRow]; exact lifted os started H enc F)

theorem plain (f : FuncId) (fn : Func) (hf : Tryd.pinned.checked.prog.funcNamed "almery/almerylaw10.ProxyLooks" = some f) (hfn : Tryd.pinned.checked.prog.funcs[f]? = some fn) :
    false = Tryd.pinned.checked.prog.looks [] ∧ ∀ (j : Nat) t, fn.params[j]? = some t → Tryd.pinned.checked.prog.wantsStandIn t = false := by
  obtain rfl : f = 5 := Option.some.inj ((show Tryd.prog.funcNamed "almery/almerylaw10.ProxyLooks" = some 5 by kernel_rfl).symm.trans hf) |>.symm
  obtain rfl : fn = Tryd.f5 := (Option.some.inj (Tryd.func5.symm.trans hfn)).symm
  refine ⟨by kernel_rfl, fun j t ht => ?_⟩
  rw [Tryd.params5] at ht
  match j, ht with
  | 0, ht =>
    obtain rfl : t = 22 := by simpa using ht.symm
    exact (show Tryd.prog.wantsStandIn 22 = false by kernel_rfl)
  | 1, ht =>
    obtain rfl : t = 23 := by simpa using ht.symm
    exact (show Tryd.prog.wantsStandIn 23 = false by kernel_rfl)
  | 2, ht =>
    obtain rfl : t = 3 := by simpa using ht.symm
    exact (show Tryd.prog.wantsStandIn 3 = false by kernel_rfl)
  | j + 3, ht => simp at ht

theorem proved : Rows.ProxyLooksCardSaid :=
  Claim7.holds_tied_plain_at .later [] _ _ _ _ said (fun _ h => by cases h) (by kernel_rfl) (fun _ h => by cases h) proxyLooks_row_tie rfl ⟨rfl, rfl⟩ (by kernel_rfl) rfl plain (by kernel_rfl)
#print axioms proved
end Go.Proofs.YtelhhhmmkdbagaaDoor.proxyLooks
