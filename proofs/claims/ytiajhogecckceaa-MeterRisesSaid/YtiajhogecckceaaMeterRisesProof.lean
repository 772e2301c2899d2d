/-
  MeterRises: whatever ints and whatever one more come in, the law returns true, and the input reads behind the call as it did.
-/
import Derived.Test.YtiajhogecckceaaRows
import Derived.WalkKit
import Derived.ProofKit
import Derived.OpenShut
import Derived.Test.YtiajhogecckceaaMeterAwake
import Derived.Test.YtiajhogecckceaaMeterRun
import Derived.ShutString
import Derived.ChangeOld
import Derived.Below
namespace Go.Proofs.Ytiajhogecckceaa.meterRises
open Go.ChangeShapes Go.WideShapes Go.ChangeAt Go.RowKit
open Go.ChangeMaps (open_string shut_string)
set_option linter.unusedVariables false

theorem own : ownKnob Try.prog.godebug = none := by kernel_rfl
theorem laidOut : laidOutB Try.prog = true := by kernel_rfl

/-! ### The walk -/
theorem walk (al : Option Addr) (ll cl : Nat) (l : List Int) (n : Int) (w : World) (hl : Ints w w.heap.size al ll l) (hcl : ll ≤ cl) (hn : (Lit.int .i64 n).wf = true) :
    Calls Try.prog 5 #[.slice al ll cl, .int .i64 n] w fun e w' => e = .returned (.bool true) ∧ Below w.heap.size w w' := by
  have hmax := hl.max
  have HLEN := Lib.hid hl.len
  go_enter Try.func5, Try.ntmps5
  go_wp2_with fail
  refine (awake05_any w).mono ?_
  rintro e w0 ⟨rfl, hb⟩
  by_cases h60 : 60 < ll
  · have d : decide ((60 : Int) < (ll : Int)) = true := by simp; omega
    go_wp2
    go_ret
    exact ⟨rfl, hb⟩
  · have d : decide ((60 : Int) < (ll : Int)) = false := by simp; omega
    have hI0 : Ints w0 w.heap.size al ll l := hl.below hb
    go_wp2_with fail
    refine (new_any w0).mono ?_
    rintro e w1 ⟨rfl, m1, b1, s1⟩
    have hI1 : Ints w1 w.heap.size al ll l := hI0.below (b1.mono hb.size)
    have HB := Lib.hid (hb.trans (b1.mono hb.size))
    have HS : Hid (w.heap.size ≤ w1.heap.size) := Lib.hid (Nat.le_trans hb.size b1.size)
    have HG := Lib.hid hb.size
    generalize hg : w0.heap.size = g at *
    clear hg hI0 hb b1 s1
    go_wp2
    go_loopw [7] (fun i wr => ∃ k : Nat, k ≤ ll ∧ i = .int .i64 k ∧ Run l g w.heap.size w1 k 0 wr) (fun i _ => ll - (intOf i).toNat)
    case atStart => exact ⟨0, Nat.zero_le _, rfl, Below.refl _ _, m1⟩
    case round =>
      obtain ⟨k, hk, rfl, hr⟩ := hrel
      have hI : Ints wr w.heap.size al ll l := hI1.below hr.below
      by_cases hlt : k < ll
      · obtain ⟨x, hx, x1, x2⟩ := hI.at_ hlt
        obtain ⟨b, o, rfl, hb, hc⟩ := hI.head (by omega)
        have hcell := hc k x hx
        have ht := total_zero (l.take k)
        have hm := more_fit x ht.1 ht.2
        have HX := Lib.hid hx
        have HC := Lib.hid (charge_any g _ 0 x wr hr.meter)
        have HT := Lib.hid (total_any g _ 0 wr hr.meter)
        generalize he : total 0 (l.take k) = t at *
        have HE := Lib.hid he
        have c1 : decide (more t x < t) = false := by simp; omega
        have c2 : decide (4611686018427387904 < more t x) = false := by simp; omega
        clear hc hx he ht hm
        go_wp2_with fail
        refine HT.out.mono ?_
        rintro e w2 ⟨rfl, rfl⟩
        go_wp2_with fail
        refine HC.out.mono ?_
        rintro e w2 ⟨rfl, m2, b2⟩
        have HN := Lib.hid (hr.next HX.out HS.out HG.out (by rw [HE.out]; exact m2) b2)
        have HT2 := Lib.hid (total_any g _ 0 w2 m2)
        clear m2 b2 HC HT
        go_wp2_with fail
        refine HT2.out.mono ?_
        rintro e w3 ⟨rfl, rfl⟩
        go_wp2_with fail
        refine HT2.out.mono ?_
        rintro e w3 ⟨rfl, rfl⟩
        go_wp2
        go_roundw
        case rel => exact ⟨k + 1, by omega, by go_num, HN.out⟩
        case measure => simp [intOf]; omega
      · have e : k = ll := by omega
        have m3 := hr.meter
        have ht := total_zero (l.take k)
        have HR := Lib.hid hr
        generalize he : total 0 (l.take k) = t at *
        have hm := more_fit n ht.1 ht.2
        have HE := Lib.hid he
        have HM := Lib.hid m3
        subst e
        have c0 := more_test t n
        clear he ht hm m3
        go_wp2_with fail
        refine (total_any g _ 0 _ HM.out).mono ?_
        rintro e w2 ⟨rfl, rfl⟩
        go_wp2_with fail
        refine (charge_any g _ 0 n _ HM.out).mono ?_
        rintro e w2 ⟨rfl, m2, b2⟩
        have HB2 := Lib.hid ((HB.out.trans HR.out.below).trans (b2.one (Nat.le_trans HS.out HR.out.below.size) HG.out))
        go_wp2_with fail
        refine (total_any g _ 0 _ m2).mono ?_
        rintro e w3 ⟨rfl, rfl⟩
        by_cases q1 : n < 1
        · have d1 : decide (n < 1) = true := by simpa using q1
          have c3 : (more t n == t) = true := by simpa [d1] using c0
          clear c0
          go_wp2
          go_ret
          exact ⟨rfl, HB2.out⟩
        · have d1 : decide (n < 1) = false := by simpa using q1
          have c3 : ((more t n == t) == (t == 4611686018427387904)) = true := by simpa [d1] using c0
          clear c0
          go_wp2
          go_ret
          exact ⟨rfl, HB2.out⟩

/-! ### The frame of the row -/
set_option maxRecDepth 100000 in
theorem lifted (os : Os) (started : os.Started) (H : Type) (enc : TypeId × Value → H) :
    ReturnsInHanded {} Try.checked os 5 .any (Rows.meterRisesSpec.pre6 enc Try.prog Try.f5 Rows.meterRisesRow.domain false) (Rows.meterRisesSpec.post enc Try.prog Try.f5 false true false false) := by
  refine returnsInHanded_of_change (C := Try.checked) own started (by kernel_rfl) Try.func5
    (ChangeSpec.witness6 (enc := enc) (C := Try.checked) false ⟨#[], #[.slice none 0 0, .int .i64 0], []⟩ 8 (by kernel_rfl) (by kernel_rfl) (by kernel_rfl) (by kernel_rfl)) ?_
  intro W base args ds gs before hval0 hW hcnd _
  have hval : ∀ (j : Nat) t v, Try.f5.params[j]? = some t → args[j]? = some v → Value.okWide Try.prog W .any base t v := hval0
  have hW' := hW
  obtain ⟨p, q, hA0, hV, rfl, hfz, hnd⟩ := hW
  have hA : DataW.TrodAll enc Try.prog W 0 (fun _ => true) true Try.f5.params.toList args.toList ds p := hA0
  rw [Try.params5] at hA hval
  obtain ⟨v0, vs0, d0, ds0, p0, q0, hargs, rfl, rfl, h0, r0⟩ := trodAll_cons hA
  obtain ⟨v1, vs1, d1, ds1, p1, q1, rfl, rfl, rfl, h1, r1⟩ := trodAll_cons r0
  obtain ⟨rfl, rfl, rfl⟩ := trodAll_nil r1
  obtain rfl : args = #[v0, v1] := by cases args; simp_all
  obtain ⟨rfl, rfl⟩ := trodVars_none hV
  have k0 := h0
  have lt0 : ∀ x ∈ p0, x.block < W.heap.size := by obtain ⟨m, hm⟩ := k0; exact DataW.trod_lt m _ _ _ hm
  obtain ⟨al, ll, cl, rfl⟩ := okWide_slice Try.underlying22 (hval 0 22 v0 rfl rfl)
  obtain ⟨l, hcl, hl⟩ : ∃ xs, ll ≤ cl ∧ Ints W W.heap.size al ll xs := by
    obtain ⟨fuel, hf⟩ := h0
    obtain ⟨a, l, c, xs, e, hl, hi⟩ := ints_field (by simpa [Value.cells] using hf)
    injection e with e1 e2 e3
    subst e1 e2 e3
    exact ⟨xs, hl, hi⟩
  obtain ⟨n, rfl, rfl, rfl, hn⟩ := open_int Try.underlying3 (hval 1 3 v1 rfl rfl) h1
  clear hA0 hval0
  refine (walk al ll cl l n W hl hcl hn).mono fun e W' ⟨he, bel⟩ => ?_
  subst he
  exact ⟨_, rfl, _, _, _, [], _, [], hW', trodAll_mk1 (shut_bool Try.underlying4 _), (trodAll_cons_mk (Below.trod laidOut (by kernel_rfl) (of_decide_eq_true (by kernel_rfl)) k0 bel lt0) (trodAll_cons_mk (shut_int Try.underlying3 hn) trodAll_mk0)), rfl, bel.frame _, fun h => by cases h⟩

theorem over : Rows.meterRisesRow.holds Try.pinned (OpenSpec.ofChange Rows.meterRisesSpec) :=
  OpenClaim.holds_of_wide 5 Try.f5 rfl rfl rfl rfl rfl rfl rfl ⟨rfl, rfl, rfl, rfl, rfl⟩ rfl rfl rfl rfl rfl (by kernel_rfl) Try.func5 (by kernel_rfl)
    (of_decide_eq_true (by kernel_rfl)) (by unfold Func.isWrapper; first | (rw [if_pos (by decide +kernel)]; kernel_rfl) | (rw [if_neg (by decide +kernel)]; exact ⟨rfl, rfl⟩))
    (fun os started H enc _ => lifted os started H enc)

theorem proved : Rows.MeterRisesSaid := over
#print axioms proved
end Go.Proofs.Ytiajhogecckceaa.meterRises
