/-
  ProxyActs: whatever is taken, and given back, of 1 to 8 slots of 1 to 4 generations: which handle, and slot, or what is wrong; and what is looked up at the end. The bounds of package ident stand as its text lays them (a tied card). No other condition.
-/
import Derived.Test.YtelhhhmmkdbagaaDoorRows
import Derived.Test.YtelhhhmmkdbagaaDoorCards
import Derived.Test.YtelhhhmmkdbagaaDoorTie
import Derived.Deep.DeepHandedRow
import Derived.SevenTiedAt
import Derived.WalkKit
import Derived.ProofKit
import Derived.OpenShut
import Derived.Test.YtelhhhmmkdbagaaDoorProxyAwake
import Derived.Test.YtelhhhmmkdbagaaDoorProxyRunAny
import Derived.Test.YtelhhhmmkdbagaaDoorIdentLaid
import Derived.ShutString
import Derived.ChangeOld
import Derived.Below
namespace Go.Proofs.YtelhhhmmkdbagaaDoor.proxyActs
open Go.ChangeShapes Go.WideShapes Go.ChangeAt Go.RowKit
open Go.ChangeMaps (open_string shut_string)
set_option linter.unusedVariables false

theorem own : ownKnob Tryd.prog.godebug = none := by kernel_rfl
theorem laidOut : laidOutB Tryd.prog = true := by kernel_rfl

theorem keep4 {w w' : World} (hb : Below w.heap.size w w') {p0 p1 p2 p3 : Addr} {x0 x1 x2 x3 : Value}
    (h : w.cell? p0 = some x0 ∧ w.cell? p1 = some x1 ∧ w.cell? p2 = some x2 ∧ w.cell? p3 = some x3) : w'.cell? p0 = some x0 ∧ w'.cell? p1 = some x1 ∧ w'.cell? p2 = some x2 ∧ w'.cell? p3 = some x3 :=
  ⟨(hb.cell (lt_of_cell h.1)).trans h.1, (hb.cell (lt_of_cell h.2.1)).trans h.2.1, (hb.cell (lt_of_cell h.2.2.1)).trans h.2.2.1, (hb.cell (lt_of_cell h.2.2.2)).trans h.2.2.2⟩

/-! ### The walk -/
set_option maxRecDepth 20000 in
set_option maxHeartbeats 2000000 in
theorem walk (n0 n1 : Int) (al : Option Addr) (ll cl : Nat) (l : List Ac) (w : World) (hL0 : Bd w) (hn0 : 0 ≤ n0 ∧ n0 ≤ 255) (hn1 : 0 ≤ n1 ∧ n1 ≤ 255) (hl : Acts w w.heap.size al ll l) (hcl : ll ≤ cl) :
    Calls Tryd.prog 3 #[.agg #[.int .u8 n0, .int .u8 n1], .slice al ll cl] w fun e w' => e = .returned (.bool true) ∧ Below w.heap.size w w' := by
  have hpos := hL0.pos
  have hbx := below1 w (.cells #[.int .u8 n0, .int .u8 n1] 22)
  have A := Lib.hid (awake10_any (w.alloc (.cells #[.int .u8 n0, .int .u8 n1] 22)) (hL0.below hpos hbx))
  have HBD := Lib.hid (hL0.below hpos hbx)
  have HX := Lib.hid hbx
  have HN : Hid ((w.alloc (.cells #[.int .u8 n0, .int .u8 n1] 22)).cell? ⟨w.heap.size, 0, none⟩ = some (.int .u8 n0) ∧ (w.alloc (.cells #[.int .u8 n0, .int .u8 n1] 22)).cell? ⟨w.heap.size, 1, none⟩ = some (.int .u8 n1)) := Lib.hid ⟨by go_simp, by go_simp⟩
  have hmax := hl.max
  obtain ⟨K, hK⟩ : ∃ K : Nat, 1 + n0 % 8 = (K : Int) := ⟨(1 + n0 % 8).toNat, by omega⟩
  obtain ⟨M, hM⟩ : ∃ M : Int, 1 + n1 % 4 = M := ⟨_, rfl⟩
  have hK8 : K ≤ 8 := by omega
  have HK := Lib.hid hK
  have HM := Lib.hid hM
  clear hL0 hbx hK hM
  go_enter Tryd.func3, Tryd.ntmps3
  go_wp2_with fail
  refine A.out.mono ?_
  rintro e w0 ⟨rfl, h0⟩
  have H0 := Lib.hid (belowT HX.out h0)
  have BD0 := Lib.hid (HBD.out.below HBD.out.pos h0)
  have x0 := (h0.cell (p := ⟨w.heap.size, 0, none⟩) (lt_of_cell (p := ⟨w.heap.size, 0, none⟩) HN.out.1)).trans HN.out.1
  have x1 := (h0.cell (p := ⟨w.heap.size, 1, none⟩) (lt_of_cell (p := ⟨w.heap.size, 1, none⟩) HN.out.2)).trans HN.out.2
  clear h0 A
  by_cases hll : 40 < ll
  · have d1 : decide ((40 : Int) < (ll : Int)) = true := by simp; omega
    go_wp2
    go_ret
    exact ⟨rfl, H0.out⟩
  have d1 : decide ((40 : Int) < (ll : Int)) = false := by simp; omega
  have HR := Lib.hid (run10_any n0 n1 hn0 hn1 K M HK.out HM.out al ll cl l w.heap.size w0 H0.out.size (hl.below H0.out) BD0.out)
  go_wp2_with fail
  refine HR.out.mono ?_
  rintro e w2 ⟨p, a, T, ga, gc, la, lc, fa, fc, n', P, rfl, m2, r2, b2, _, _⟩
  have hb3 := below1 w2 (.cells #[.slice ga K gc, .slice la K lc, .slice fa n' fc, .int .i64 M] 29)
  have M3 := Lib.hid (m2.below hb3)
  have R3 := Lib.hid (r2.on hb3)
  have B3 := Lib.hid (belowT (belowT H0.out b2) hb3)
  have X3 := Lib.hid (Bv.new w2 (.slice ga K gc) (.slice la K lc) (.slice fa n' fc) (.int .i64 M))
  have HLn : Hid (T.fl.length = n') := Lib.hid r2.free.len
  clear m2 r2 b2 hb3 HR x0 x1
  go_wp2
  generalize w2.alloc (.cells #[.slice ga K gc, .slice la K lc, .slice fa n' fc, .int .i64 M] 29) = w3 at M3 R3 B3 X3 ⊢
  generalize w2.heap.size = g at X3 ⊢
  go_loopw [9] (fun i wr => ∃ k : Nat, k ≤ 60 ∧ i = .int .i64 k ∧ Below w3.heap.size w3 wr) (fun i _ => 60 - (intOf i).toNat)
  case atStart => exact ⟨0, by omega, rfl, Below.refl _ _⟩
  case round =>
    obtain ⟨k, hk, rfl, hb⟩ := hrel
    have HBB := Lib.hid hb
    obtain ⟨p0, p1, p2, p3, pf0, pf1, pf2, pf3⟩ := X3.out.below hb
    clear hb
    by_cases hlt : k < 60
    · have dk : decide ((k : Int) < 60) = true := by simp; omega
      obtain ⟨s, hs⟩ : ∃ s, (k : Int) / 10 = s := ⟨_, rfl⟩
      obtain ⟨t, ht⟩ : ∃ t, (k : Int) % 10 = t := ⟨_, rfl⟩
      have hs2 : (k : Int).tdiv 10 = s := by rw [Int.tdiv_eq_ediv_of_nonneg (by omega), hs]
      have ht2 : (k : Int).tmod 10 = t := by rw [Int.tmod_eq_emod_of_nonneg (by omega), ht]
      obtain ⟨h, hh⟩ : ∃ h, 4096 * s + t = h := ⟨_, rfl⟩
      have ws : IntKind.i64.wrap s = s := IntWalk.i64_in _ (by omega)
      have wm : IntKind.i64.wrap (4096 * s) = 4096 * s := IntWalk.i64_in _ (by omega)
      have wa : IntKind.i64.wrap (4096 * s + t) = h := by rw [IntWalk.i64_in _ (by omega), hh]
      have LK := Lib.hid (look_any (M3.out.below HBB.out) (n := h) (by omega) (by omega))
      have LRR := Lib.hid (fun v (hv : Below w3.heap.size w3 v) => refLook_any (M := M) (R3.out.on hv) M3.out.wf h (by omega) (by omega))
      generalize lookOut T h = y at LK LRR
      have e1 : (y.1 != y.1) = false := by simp
      have e2 : (y.2 != y.2) = false := by simp
      clear hh
      go_wp2_with fail
      refine LK.out.mono ?_
      rintro e w4 ⟨rfl, b4⟩
      have B4 := Lib.hid (belowT HBB.out b4)
      have LR := Lib.hid (LRR.out w4 B4.out)
      clear p0 p1 p2 p3 pf0 pf1 pf2 pf3 b4 LK LRR
      obtain ⟨p0, p1, p2, p3, pf0, pf1, pf2, pf3⟩ := X3.out.below B4.out
      go_wp2_with fail
      refine LR.out.mono ?_
      rintro e w5 ⟨rfl, b5⟩
      have B5 := Lib.hid (belowT B4.out b5)
      clear b5 p0 p1 p2 p3 pf0 pf1 pf2 pf3 ws wm wa
      go_wp2
      go_roundw
      case rel => exact ⟨k + 1, by omega, by go_num, B5.out⟩
      case measure => simp [intOf]; omega
    · have dk : decide ((k : Int) < 60) = false := by simp; omega
      have KL := fun v (hv : Below w3.heap.size w3 v) => left_any (M3.out.below hv)
      rw [HLn.out] at KL
      have HL := Lib.hid KL
      have HV := Lib.hid (fun v (hv : Below w3.heap.size w3 v) => live_any (M3.out.below hv))
      have HS := Lib.hid (fun v (hv : Below w3.heap.size w3 v) => lives_any (M := M) (R3.out.on hv) (by omega))
      generalize T.L.count true = c at HV HS
      have BD := belowD HBB.out
      have kW := (show wr.cell? ⟨g, 0, none⟩ = some (.slice ga K gc) ∧ wr.cell? ⟨g, 1, none⟩ = some (.slice la K lc) ∧ wr.cell? ⟨g, 2, none⟩ = some (.slice fa n' fc) ∧ wr.cell? ⟨g, 3, none⟩ = some (.int .i64 M) from ⟨p0, p1, p2, p3⟩)
      have kD := keep4 (belowD (Below.refl wr.heap.size wr)) kW
      have e1 : ((n' : Int) == (n' : Int)) = true := by simp
      have e2 : ((c : Int) == (c : Int)) = true := by simp
      clear KL
      go_wp2_with fail
      go_region_held3 (fun w' => w'.cell? ⟨g, 0, none⟩ = some (.slice ga K gc) ∧ w'.cell? ⟨g, 1, none⟩ = some (.slice la K lc) ∧ w'.cell? ⟨g, 2, none⟩ = some (.slice fa n' fc) ∧ w'.cell? ⟨g, 3, none⟩ = some (.int .i64 M))
        (first | with_reducible exact kD | with_reducible exact k5 | with_reducible exact kW | go_keep)
        (first
          | (go_at_call 12; refine (HL.out _ ?_).mono ?_; (first | exact BD | exact B5); rintro e w6 ⟨rfl, rfl⟩)
          | (go_at_call 13; refine (HV.out _ ?_).mono ?_; (first | exact B5 | exact BD); rintro e w6 ⟨rfl, rfl⟩)
          | (go_at_call 14; refine (HS.out _ ?_).mono ?_; (first | exact BD); rintro e w5 ⟨rfl, b5⟩; have B5 := belowT BD b5; have k5 := keep4 b5 kD))
      all_goals
        go_wp2
        go_ret
        exact ⟨rfl, belowT B3.out B5⟩

/-! ### The frame of the row -/
theorem laid_met (os : Os) : laidMet Tryd.prog Rows.proxyActsRow.laid ((laidWorld os).forCall (fun _ _ => 0) ⟨#[], #[.agg #[.int .u8 0, .int .u8 0], .slice none 0 0], []⟩).memory :=
  laidMet_of_run' 8 (by kernel_rfl) (by kernel_rfl)
theorem reads (os : Os) {H : Type} (enc : TypeId × Value → H) : ∃ places, DataW.whole enc Tryd.prog ((laidWorld os).forCall (fun _ _ => 0) ⟨#[], #[.agg #[.int .u8 0, .int .u8 0], .slice none 0 0], []⟩).memory Tryd.f3.params.toList Rows.proxyActsSpec.vars false (#[.agg #[.int .u8 0, .int .u8 0], .slice none 0 0] : Array Value).toList 8 = some ([.agg [.lit (.int .u8 0), .lit (.int .u8 0)], .nil], [], places) :=
  ⟨[], by kernel_rfl⟩
set_option maxRecDepth 100000 in
theorem lifted (os : Os) (started : os.Started) (H : Type) (enc : TypeId × Value → H) (F : Stop.Interp) :
    ReturnsInHanded {} Tryd.checked os 3 .any ((OpenSpec.ofChange Rows.proxyActsSpec).preRow enc Tryd.prog Tryd.f3 Rows.proxyActsRow.domain false Rows.proxyActsRow.laid) (((OpenSpec.ofChange Rows.proxyActsSpec).at F).post enc Tryd.prog Tryd.f3 false true false false) := by
  obtain ⟨places, hx⟩ := reads os enc
  refine returnsInHanded_of_row (C := Tryd.checked) (s := OpenSpec.ofChange Rows.proxyActsSpec) own started (by kernel_rfl) Tryd.func3
    (witness_row_at (enc := enc) (C := Tryd.checked) false (laidWorld os) #[.agg #[.int .u8 0, .int .u8 0], .slice none 0 0] rfl (by kernel_rfl) (by kernel_rfl) (by kernel_rfl)
      (OpenSpec.preRow_of_cond 8 hx (by kernel_rfl) (fun k hk => by cases hk) (by kernel_rfl) (laid_met os))) ?_
  intro W base args ds gs before hval0 hW _ _ _ hL _ _
  have hval : ∀ (j : Nat) t v, Tryd.f3.params[j]? = some t → args[j]? = some v → Value.okWide Tryd.prog W .any base t v := hval0
  have hW' := hW
  obtain ⟨p, q, hA0, hV, rfl, hfz, hnd⟩ := hW
  have hA : DataW.TrodAll enc Tryd.prog W 0 (fun _ => true) true Tryd.f3.params.toList args.toList ds p := hA0
  rw [Tryd.params3] at hA hval
  obtain ⟨v0, vs0, d0, ds0, p0, q0, hargs, rfl, rfl, h0, r0⟩ := trodAll_cons hA
  obtain ⟨v1, vs1, d1, ds1, p1, q1, rfl, rfl, rfl, h1, r1⟩ := trodAll_cons r0
  obtain ⟨rfl, rfl, rfl⟩ := trodAll_nil r1
  obtain rfl : args = #[v0, v1] := by cases args; simp_all
  obtain ⟨rfl, rfl⟩ := trodVars_none hV
  have k0 := h0
  have lt0 : ∀ x ∈ p0, x.block < W.heap.size := by obtain ⟨m, hm⟩ := k0; exact DataW.trod_lt m _ _ _ hm
  obtain ⟨n0, n1, rfl, hn0, hn1⟩ := open_two (hval 0 22 v0 rfl rfl) h0
  have k1 := h1
  have lt1 : ∀ x ∈ p1, x.block < W.heap.size := by obtain ⟨m, hm⟩ := k1; exact DataW.trod_lt m _ _ _ hm
  obtain ⟨al, ll, cl, rfl⟩ := okWide_slice Tryd.underlying23 (hval 1 23 v1 rfl rfl)
  obtain ⟨l, hcl, hl⟩ : ∃ xs, ll ≤ cl ∧ Acts W W.heap.size al ll xs := by
    obtain ⟨fuel, hf⟩ := h1
    obtain ⟨a, l, c, xs, e, hl, hi⟩ := acts_field (by simpa [Value.cells] using hf)
    injection e with e1 e2 e3
    subst e1 e2 e3
    exact ⟨xs, hl, hi⟩
  clear hA0 hval0
  refine (walk n0 n1 al ll cl l W (bd_of hL) hn0 hn1 hl hcl).mono fun e W' ⟨he, bel⟩ => ?_
  subst he
  exact ⟨_, rfl, _, _, _, [], _, [], hW', trodAll_mk1 (shut_bool Tryd.underlying4 _), (trodAll_cons_mk (Below.trod laidOut (by kernel_rfl) (of_decide_eq_true (by kernel_rfl)) k0 bel lt0) (trodAll_cons_mk (Below.trod laidOut (by kernel_rfl) (of_decide_eq_true (by kernel_rfl)) k1 bel lt1) trodAll_mk0)), rfl, bel.frame _, fun h => by cases h⟩

theorem said : Rows.ProxyActsSaid :=
  OpenClaim.holds_of_cond 3 Tryd.f3 rfl rfl rfl rfl rfl rfl rfl ⟨rfl, rfl, rfl, rfl, rfl⟩ rfl rfl rfl rfl rfl (by kernel_rfl) Tryd.func3 (by kernel_rfl)
    (of_decide_eq_true (by kernel_rfl)) (by unfold Func.isWrapper; first | (rw [if_pos (by decide +kernel)]; kernel_rfl) | (rw [if_neg (by decide +kernel)]; exact ⟨rfl, rfl⟩))
    (fun os started H enc _ F => by rw [OpenClaim.pre_eq_preRow]; exact lifted os started H enc F)

theorem plain (f : FuncId) (fn : Func) (hf : Tryd.pinned.checked.prog.funcNamed "almery/almerylaw10.ProxyActs" = some f) (hfn : Tryd.pinned.checked.prog.funcs[f]? = some fn) :
    false = Tryd.pinned.checked.prog.looks [] ∧ ∀ (j : Nat) t, fn.params[j]? = some t → Tryd.pinned.checked.prog.wantsStandIn t = false := by
  obtain rfl : f = 3 := Option.some.inj ((show Tryd.prog.funcNamed "almery/almerylaw10.ProxyActs" = some 3 by kernel_rfl).symm.trans hf) |>.symm
  obtain rfl : fn = Tryd.f3 := (Option.some.inj (Tryd.func3.symm.trans hfn)).symm
  refine ⟨by kernel_rfl, fun j t ht => ?_⟩
  rw [Tryd.params3] at ht
  match j, ht with
  | 0, ht =>
    obtain rfl : t = 22 := by simpa using ht.symm
    exact (show Tryd.prog.wantsStandIn 22 = false by kernel_rfl)
  | 1, ht =>
    obtain rfl : t = 23 := by simpa using ht.symm
    exact (show Tryd.prog.wantsStandIn 23 = false by kernel_rfl)
  | j + 2, ht => simp at ht

theorem proved : Rows.ProxyActsCardSaid :=
  Claim7.holds_tied_plain_at .later [] _ _ _ _ said (fun _ h => by cases h) (by kernel_rfl) (fun _ h => by cases h) proxyActs_row_tie rfl ⟨rfl, rfl⟩ (by kernel_rfl) rfl plain (by kernel_rfl)
#print axioms proved
end Go.Proofs.YtelhhhmmkdbagaaDoor.proxyActs
