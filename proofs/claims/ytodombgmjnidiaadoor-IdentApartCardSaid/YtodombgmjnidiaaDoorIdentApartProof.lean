/-
  IdentApart: two handles are the same just if both their slots, and their generations, are. The package's bounds stand as its text lays them (a tied card). No other condition.
-/
import Derived.Test.YtodombgmjnidiaaDoorRows
import Derived.Test.YtodombgmjnidiaaDoorCards
import Derived.Test.YtodombgmjnidiaaDoorTie
import Derived.Deep.DeepHandedRow
import Derived.SevenTiedAt
import Derived.WalkKit
import Derived.ProofKit
import Derived.OpenShut
import Derived.Test.YtodombgmjnidiaaDoorIdentAwake
import Derived.Test.YtodombgmjnidiaaDoorIdentLaid
import Derived.Test.YtodombgmjnidiaaDoorIdentTwo
import Derived.ShutString
import Derived.ChangeOld
import Derived.Below
namespace Go.Proofs.YtodombgmjnidiaaDoor.identApart
open Go.ChangeShapes Go.WideShapes Go.ChangeAt Go.RowKit
open Go.ChangeMaps (open_string shut_string)
set_option linter.unusedVariables false

theorem own : ownKnob Tryd.prog.godebug = none := by kernel_rfl
theorem laidOut : laidOutB Tryd.prog = true := by kernel_rfl

/-! ### The walk -/
theorem walk (a0 a1 : Int) (b0 b1 : Int) (w : World) (hL0 : Bd w) (ha0 : 0 ≤ a0 ∧ a0 ≤ 65535) (ha1 : 0 ≤ a1 ∧ a1 ≤ 65535) (hb0 : 0 ≤ b0 ∧ b0 ≤ 65535) (hb1 : 0 ≤ b1 ∧ b1 ≤ 65535) :
    Calls Tryd.prog 7 #[.agg #[.int .u16 a0, .int .u16 a1], .agg #[.int .u16 b0, .int .u16 b1]] w fun e w' => e = .returned (.bool true) ∧ Below w.heap.size w w' := by
  have H := Lib.hid hL0
  obtain ⟨s, hs⟩ : ∃ s, a0 % 4096 = s := ⟨_, rfl⟩
  obtain ⟨r, hr⟩ : ∃ r, a1 % 1023 = r := ⟨_, rfl⟩
  obtain ⟨t, ht⟩ : ∃ t, b0 % 4096 = t := ⟨_, rfl⟩
  obtain ⟨u, hu⟩ : ∃ u, b1 % 1023 = u := ⟨_, rfl⟩
  have hs2 : a0.tmod 4096 = s := by rw [Int.tmod_eq_emod_of_nonneg (by omega), hs]
  have hr2 : a1.tmod 1023 = r := by rw [Int.tmod_eq_emod_of_nonneg (by omega), hr]
  have ht2 : b0.tmod 4096 = t := by rw [Int.tmod_eq_emod_of_nonneg (by omega), ht]
  have hu2 : b1.tmod 1023 = u := by rw [Int.tmod_eq_emod_of_nonneg (by omega), hu]
  have s1 : 0 ≤ s ∧ s ≤ 4095 := by omega
  have r1 : 0 ≤ r ∧ r ≤ 1022 := by omega
  have t1 : 0 ≤ t ∧ t ≤ 4095 := by omega
  have u1 : 0 ≤ u ∧ u ≤ 1022 := by omega
  obtain ⟨g, hg⟩ : ∃ g, 1 + r = g := ⟨_, rfl⟩
  obtain ⟨k, hk⟩ : ∃ k, 1 + u = k := ⟨_, rfl⟩
  have hw : IntKind.i64.wrap (1 + r) = g := by rw [IntWalk.i64_in _ (by omega), hg]
  have hw2 : IntKind.i64.wrap (1 + u) = k := by rw [IntWalk.i64_in _ (by omega), hk]
  obtain ⟨x, hx⟩ : ∃ x, 4096 * g + s = x := ⟨_, rfl⟩
  obtain ⟨y, hy⟩ : ∃ y, 4096 * k + t = y := ⟨_, rfl⟩
  obtain ⟨f1, f2⟩ := join_on (mayB_on (x := s) (y := g) (by omega))
  obtain ⟨f3, f4⟩ := join_on (mayB_on (x := t) (y := k) (by omega))
  have J1 := fun v (hv : Bd v) => join_any s g v hv
  have J2 := fun v (hv : Bd v) => join_any t k v hv
  rw [f1, f2, hx] at J1
  rw [f3, f4, hy] at J2
  have HJ1 := Lib.hid J1
  have HJ2 := Lib.hid J2
  have A := Lib.hid (fun v (hv : Bd v) => awake09_any v hv)
  have FX : Hid ((x == y) = ((s == t) && (g == k)) ∧ (k ≤ g ∨ x < y)) := Lib.hid (by
    constructor
    · rw [Bool.eq_iff_iff]
      simp
      omega
    · omega)
  clear J1 J2 f1 f2 f3 f4 hx hy hL0
  go_enter Tryd.func7, Tryd.ntmps7
  have HB : Hid (Below w.heap.size w ((w.alloc (.cells #[.int .u16 a0, .int .u16 a1] 36)).alloc (.cells #[.int .u16 b0, .int .u16 b1] 36))) := Lib.hid (below2 _ _ _)
  go_wp2_with fail
  refine (A.out _ (H.out.next HB.out)).mono ?_
  rintro e w1 ⟨rfl, b1⟩
  have c0 := (b1.cell (p := ⟨w.heap.size, 0, none⟩) (by simp; omega))
  have c1 := (b1.cell (p := ⟨w.heap.size, 1, none⟩) (by simp; omega))
  have c2 := (b1.cell (p := ⟨w.heap.size + 1, 0, none⟩) (by simp))
  have c3 := (b1.cell (p := ⟨w.heap.size + 1, 1, none⟩) (by simp))
  have B1 := Lib.hid (belowT HB.out b1)
  have H1 := Lib.hid (H.out.next B1.out)
  clear b1
  simp [go_sem] at c0 c1 c2 c3
  go_wp2_with fail
  refine (HJ1.out w1 H1.out).mono ?_
  rintro e w2 ⟨rfl, b2⟩
  have B2 := Lib.hid (belowT B1.out b2)
  have H2 := Lib.hid (H1.out.next b2)
  clear b2
  go_wp2_with fail
  refine (HJ2.out w2 H2.out).mono ?_
  rintro e w3 ⟨rfl, b3⟩
  have B3 := Lib.hid (belowT B2.out b3)
  clear b3
  have q1 : (x == y) = ((s == t) && (g == k)) := FX.out.1
  cases z1 : (s == t) with
  | false =>
    rw [z1] at q1
    by_cases z3 : k ≤ g
    · have z4 : decide (k ≤ g) = true := by simpa using z3
      go_wp2
      go_ret
      exact ⟨by simp, B3.out⟩
    · have z4 : decide (k ≤ g) = false := by simpa using z3
      have z5 : decide (x < y) = true := by have := FX.out.2; simp; omega
      go_wp2
      go_ret
      exact ⟨by simp, B3.out⟩
  | true =>
    rw [z1] at q1
    cases z2 : (g == k) with
    | false =>
      rw [z2] at q1
      by_cases z3 : k ≤ g
      · have z4 : decide (k ≤ g) = true := by simpa using z3
        go_wp2
        go_ret
        exact ⟨by simp, B3.out⟩
      · have z4 : decide (k ≤ g) = false := by simpa using z3
        have z5 : decide (x < y) = true := by have := FX.out.2; simp; omega
        go_wp2
        go_ret
        exact ⟨by simp, B3.out⟩
    | true =>
      rw [z2] at q1
      have z4 : decide (k ≤ g) = true := by simp at z2 ⊢; omega
      go_wp2
      go_ret
      exact ⟨by simp, B3.out⟩

/-! ### The frame of the row -/
theorem laid_met (os : Os) : laidMet Tryd.prog Rows.identApartRow.laid ((laidWorld os).forCall (fun _ _ => 0) ⟨#[], #[.agg #[.int .u16 0, .int .u16 0], .agg #[.int .u16 0, .int .u16 0]], []⟩).memory :=
  laidMet_of_run' 8 (by kernel_rfl) (by kernel_rfl)
theorem reads (os : Os) {H : Type} (enc : TypeId × Value → H) : ∃ places, DataW.whole enc Tryd.prog ((laidWorld os).forCall (fun _ _ => 0) ⟨#[], #[.agg #[.int .u16 0, .int .u16 0], .agg #[.int .u16 0, .int .u16 0]], []⟩).memory Tryd.f7.params.toList Rows.identApartSpec.vars false (#[.agg #[.int .u16 0, .int .u16 0], .agg #[.int .u16 0, .int .u16 0]] : Array Value).toList 8 = some ([.agg [.lit (.int .u16 0), .lit (.int .u16 0)], .agg [.lit (.int .u16 0), .lit (.int .u16 0)]], [], places) :=
  ⟨[], by kernel_rfl⟩
set_option maxRecDepth 100000 in
theorem lifted (os : Os) (started : os.Started) (H : Type) (enc : TypeId × Value → H) (F : Stop.Interp) :
    ReturnsInHanded {} Tryd.checked os 7 .any ((OpenSpec.ofChange Rows.identApartSpec).preRow enc Tryd.prog Tryd.f7 Rows.identApartRow.domain false Rows.identApartRow.laid) (((OpenSpec.ofChange Rows.identApartSpec).at F).post enc Tryd.prog Tryd.f7 false true false false) := by
  obtain ⟨places, hx⟩ := reads os enc
  refine returnsInHanded_of_row (C := Tryd.checked) (s := OpenSpec.ofChange Rows.identApartSpec) own started (by kernel_rfl) Tryd.func7
    (witness_row_at (enc := enc) (C := Tryd.checked) false (laidWorld os) #[.agg #[.int .u16 0, .int .u16 0], .agg #[.int .u16 0, .int .u16 0]] rfl (by kernel_rfl) (by kernel_rfl) (by kernel_rfl)
      (OpenSpec.preRow_of_cond 8 hx (by kernel_rfl) (fun k hk => by cases hk) (by kernel_rfl) (laid_met os))) ?_
  intro W base args ds gs before hval0 hW _ _ _ hL _ _
  have hval : ∀ (j : Nat) t v, Tryd.f7.params[j]? = some t → args[j]? = some v → Value.okWide Tryd.prog W .any base t v := hval0
  have hW' := hW
  obtain ⟨p, q, hA0, hV, rfl, hfz, hnd⟩ := hW
  have hA : DataW.TrodAll enc Tryd.prog W 0 (fun _ => true) true Tryd.f7.params.toList args.toList ds p := hA0
  rw [Tryd.params7] at hA hval
  obtain ⟨v0, vs0, d0, ds0, p0, q0, hargs, rfl, rfl, h0, r0⟩ := trodAll_cons hA
  obtain ⟨v1, vs1, d1, ds1, p1, q1, rfl, rfl, rfl, h1, r1⟩ := trodAll_cons r0
  obtain ⟨rfl, rfl, rfl⟩ := trodAll_nil r1
  obtain rfl : args = #[v0, v1] := by cases args; simp_all
  obtain ⟨rfl, rfl⟩ := trodVars_none hV
  have k0 := h0
  have lt0 : ∀ x ∈ p0, x.block < W.heap.size := by obtain ⟨m, hm⟩ := k0; exact DataW.trod_lt m _ _ _ hm
  obtain ⟨a0, a1, rfl, ha0, ha1⟩ := open_two16 (hval 0 36 v0 rfl rfl) h0
  have k1 := h1
  have lt1 : ∀ x ∈ p1, x.block < W.heap.size := by obtain ⟨m, hm⟩ := k1; exact DataW.trod_lt m _ _ _ hm
  obtain ⟨b0, b1, rfl, hb0, hb1⟩ := open_two16 (hval 1 36 v1 rfl rfl) h1
  clear hA0 hval0
  refine (walk a0 a1 b0 b1 W (bd_of hL) ha0 ha1 hb0 hb1).mono fun e W' ⟨he, bel⟩ => ?_
  subst he
  exact ⟨_, rfl, _, _, _, [], _, [], hW', trodAll_mk1 (shut_bool Tryd.underlying4 _), (trodAll_cons_mk (Below.trod laidOut (by kernel_rfl) (of_decide_eq_true (by kernel_rfl)) k0 bel lt0) (trodAll_cons_mk (Below.trod laidOut (by kernel_rfl) (of_decide_eq_true (by kernel_rfl)) k1 bel lt1) trodAll_mk0)), rfl, bel.frame _, fun h => by cases h⟩

theorem said : Rows.IdentApartSaid :=
  OpenClaim.holds_of_cond 7 Tryd.f7 rfl rfl rfl rfl rfl rfl rfl ⟨rfl, rfl, rfl, rfl, rfl⟩ rfl rfl rfl rfl rfl (by kernel_rfl) Tryd.func7 (by kernel_rfl)
    (of_decide_eq_true (by kernel_rfl)) (by unfold Func.isWrapper; first | (rw [if_pos (by decide +kernel)]; kernel_rfl) | (rw [if_neg (by decide +kernel)]; exact ⟨rfl, rfl⟩))
    (fun os started H enc _ F => by rw [OpenClaim.pre_eq_preRow]; exact lifted os started H enc F)

theorem plain (f : FuncId) (fn : Func) (hf : Tryd.pinned.checked.prog.funcNamed "almery/almerylaw09.IdentApart" = some f) (hfn : Tryd.pinned.checked.prog.funcs[f]? = some fn) :
    false = Tryd.pinned.checked.prog.looks [] ∧ ∀ (j : Nat) t, fn.params[j]? = some t → Tryd.pinned.checked.prog.wantsStandIn t = false := by
  obtain rfl : f = 7 := Option.some.inj ((show Tryd.prog.funcNamed "almery/almerylaw09.IdentApart" = some 7 by kernel_rfl).symm.trans hf) |>.symm
  obtain rfl : fn = Tryd.f7 := (Option.some.inj (Tryd.func7.symm.trans hfn)).symm
  refine ⟨by kernel_rfl, fun j t ht => ?_⟩
  rw [Tryd.params7] at ht
  match j, ht with
  | 0, ht =>
    obtain rfl : t = 36 := by simpa using ht.symm
    exact (show Tryd.prog.wantsStandIn 36 = false by kernel_rfl)
  | 1, ht =>
    obtain rfl : t = 36 := by simpa using ht.symm
    exact (show Tryd.prog.wantsStandIn 36 = false by kernel_rfl)
  | j + 2, ht => simp at ht

theorem proved : Rows.IdentApartCardSaid :=
  Claim7.holds_tied_plain_at .later [] _ _ _ _ said (fun _ h => by cases h) (by kernel_rfl) (fun _ h => by cases h) identApart_row_tie rfl ⟨rfl, rfl⟩ (by kernel_rfl) rfl plain (by kernel_rfl)
#print axioms proved
end Go.Proofs.YtodombgmjnidiaaDoor.identApart
