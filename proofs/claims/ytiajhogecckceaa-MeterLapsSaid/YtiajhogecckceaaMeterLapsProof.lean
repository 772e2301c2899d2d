/-
  MeterLaps: whatever ints and whatever 64 bits come in, the law returns true, and the input reads behind the call as it did.
-/
import Derived.Test.YtiajhogecckceaaRows
import Derived.WalkKit
import Derived.ProofKit
import Derived.OpenShut
import Derived.Test.YtiajhogecckceaaMeterAwake
import Derived.Test.YtiajhogecckceaaMeterRun
import Derived.Test.YtiajhogecckceaaMeterRef
import Derived.ShutString
import Derived.ChangeOld
import Derived.Below
namespace Go.Proofs.Ytiajhogecckceaa.meterLaps
open Go.ChangeShapes Go.WideShapes Go.ChangeAt Go.RowKit
open Go.ChangeMaps (open_string shut_string)
set_option linter.unusedVariables false

theorem own : ownKnob Try.prog.godebug = none := by kernel_rfl
theorem laidOut : laidOutB Try.prog = true := by kernel_rfl

/-! ### The walk -/
theorem walk (al : Option Addr) (ll cl : Nat) (l : List Int) (laps : Int) (w : World) (hl : Ints w w.heap.size al ll l) (hcl : ll ≤ cl) (hlaps : (Lit.int .u64 laps).wf = true) :
    Calls Try.prog 4 #[.slice al ll cl, .int .u64 laps] w fun e w' => e = .returned (.bool true) ∧ Below w.heap.size w w' := by
  have hmax := hl.max
  have HLEN := Lib.hid hl.len
  go_enter Try.func4, Try.ntmps4
  go_wp2_with fail
  refine (awake05_any w).mono ?_
  rintro e w0 ⟨rfl, hb⟩
  by_cases h60 : 60 < ll
  · have d : decide ((60 : Int) < (ll : Int)) = true := by simp; omega
    go_wp2
    go_ret
    exact ⟨rfl, hb⟩
  · have d : decide ((60 : Int) < (ll : Int)) = false := by simp; omega
    have hI0 : Ints w0 w.heap.size al ll l := hl.below hb
    go_wp2_with fail
    refine (new_any w0).mono ?_
    rintro e w1 ⟨rfl, m1, b1, s1⟩
    have hI1 : Ints w1 w.heap.size al ll l := hI0.below (b1.mono hb.size)
    have HB := Lib.hid (hb.trans (b1.mono hb.size))
    have HS : Hid (w.heap.size ≤ w1.heap.size) := Lib.hid (Nat.le_trans hb.size b1.size)
    have HG := Lib.hid hb.size
    generalize hg : w0.heap.size = g at *
    clear hg hI0 hb b1 s1
    go_wp2
    go_loopw [7, 8] (fun a i wr => ∃ (k : Nat) (t : Int), k ≤ ll ∧ i = .int .i64 k ∧ a = .int .i64 t ∧ Run l g w.heap.size w1 k t wr) (fun _ i _ => ll - (intOf i).toNat)
    case atStart => exact ⟨0, 0, Nat.zero_le _, rfl, rfl, Below.refl _ _, m1⟩
    case round =>
      obtain ⟨k, s, hk, rfl, rfl, hr⟩ := hrel
      have hI : Ints wr w.heap.size al ll l := hI1.below hr.below
      by_cases hlt : k < ll
      · obtain ⟨x, hx, x1, x2⟩ := hI.at_ hlt
        obtain ⟨b, o, rfl, hb, hc⟩ := hI.head (by omega)
        have hcell := hc k x hx
        have HX := Lib.hid hx
        have HC := Lib.hid (charge_any g _ s x wr hr.meter)
        have k0 : 0 ≤ (k : Int) := by omega
        clear hc hx
        go_wp2_with fail
        refine HC.out.mono ?_
        rintro e w2 ⟨rfl, m2, b2⟩
        have hn := hr.next HX.out HS.out HG.out m2 b2
        have HN := Lib.hid hn
        have HM := Lib.hid hn.meter
        have z0 := hn.meter.l0
        have z1 := hn.meter.lt
        have z2 := hn.meter.t1
        clear m2 b2 HC hn hr
        generalize ht : total 0 (l.take (k + 1)) = t at *
        have HT := Lib.hid ht
        clear ht
        have y1 : IntKind.i64.wrap (s + (t - s)) = t := (IntWalk.i64_in _ (by omega)).trans (by omega)
        cases q : ((laps / 2 ^ k).tmod 2 == 1) with
        | true =>
          go_wp2_with fail
          refine (lap_any g _ s _ HM.out).mono ?_
          rintro e w3 ⟨rfl, m3, b3⟩
          go_wp2_with fail
          refine (lap_any g _ _ _ m3).mono ?_
          rintro e w4 ⟨rfl, m4, b4⟩
          have y2 : ((t - t : Int) != 0) = false := by simp
          go_wp2_with fail
          refine (total_any g _ _ _ m4).mono ?_
          rintro e w5 ⟨rfl, rfl⟩
          have HN2 := Lib.hid (HN.out.on HS.out HG.out (by rw [HT.out]; exact m4) (b3.trans b4))
          go_wp2
          go_roundw
          case rel => exact ⟨k + 1, t, by omega, by go_num, rfl, HN2.out⟩
          case measure => simp [intOf]; omega
        | false =>
          go_wp2
          go_roundw
          case rel => exact ⟨k + 1, s, by omega, by go_num, rfl, HN.out⟩
          case measure => simp [intOf]; omega
      · have e : k = ll := by omega
        have HE : Hid (total 0 (l.take k) = total 0 l) := Lib.hid (by rw [List.take_of_length_le (by rw [HLEN.out]; omega)])
        subst e
        have hm : Mt wr g (total 0 l) s := by rw [← HE.out]; exact hr.meter
        have HN := Lib.hid hr
        have HM := Lib.hid hm
        have z0 := hm.l0
        have z1 := hm.lt
        have z2 := hm.t1
        have y1 : IntKind.i64.wrap (s + (total 0 l - s)) = total 0 l := (IntWalk.i64_in _ (by omega)).trans (by omega)
        clear hm hr
        go_wp2_with fail
        refine (lap_any g _ s _ HM.out).mono ?_
        rintro e w2 ⟨rfl, m2, b2⟩
        have bb := b2.one (Nat.le_trans HS.out HN.out.below.size) HG.out
        go_wp2_with fail
        refine (refSum_any _ _ cl _ _ _ (hI.below bb)).mono ?_
        rintro e w3 ⟨rfl, rfl⟩
        go_wp2
        go_ret
        exact ⟨rfl, (HB.out.trans HN.out.below).trans bb⟩

/-! ### The frame of the row -/
set_option maxRecDepth 100000 in
theorem lifted (os : Os) (started : os.Started) (H : Type) (enc : TypeId × Value → H) :
    ReturnsInHanded {} Try.checked os 4 .any (Rows.meterLapsSpec.pre6 enc Try.prog Try.f4 Rows.meterLapsRow.domain false) (Rows.meterLapsSpec.post enc Try.prog Try.f4 false true false false) := by
  refine returnsInHanded_of_change (C := Try.checked) own started (by kernel_rfl) Try.func4
    (ChangeSpec.witness6 (enc := enc) (C := Try.checked) false ⟨#[], #[.slice none 0 0, .int .u64 0], []⟩ 8 (by kernel_rfl) (by kernel_rfl) (by kernel_rfl) (by kernel_rfl)) ?_
  intro W base args ds gs before hval0 hW hcnd _
  have hval : ∀ (j : Nat) t v, Try.f4.params[j]? = some t → args[j]? = some v → Value.okWide Try.prog W .any base t v := hval0
  have hW' := hW
  obtain ⟨p, q, hA0, hV, rfl, hfz, hnd⟩ := hW
  have hA : DataW.TrodAll enc Try.prog W 0 (fun _ => true) true Try.f4.params.toList args.toList ds p := hA0
  rw [Try.params4] at hA hval
  obtain ⟨v0, vs0, d0, ds0, p0, q0, hargs, rfl, rfl, h0, r0⟩ := trodAll_cons hA
  obtain ⟨v1, vs1, d1, ds1, p1, q1, rfl, rfl, rfl, h1, r1⟩ := trodAll_cons r0
  obtain ⟨rfl, rfl, rfl⟩ := trodAll_nil r1
  obtain rfl : args = #[v0, v1] := by cases args; simp_all
  obtain ⟨rfl, rfl⟩ := trodVars_none hV
  have k0 := h0
  have lt0 : ∀ x ∈ p0, x.block < W.heap.size := by obtain ⟨m, hm⟩ := k0; exact DataW.trod_lt m _ _ _ hm
  obtain ⟨al, ll, cl, rfl⟩ := okWide_slice Try.underlying22 (hval 0 22 v0 rfl rfl)
  obtain ⟨l, hcl, hl⟩ : ∃ xs, ll ≤ cl ∧ Ints W W.heap.size al ll xs := by
    obtain ⟨fuel, hf⟩ := h0
    obtain ⟨a, l, c, xs, e, hl, hi⟩ := ints_field (by simpa [Value.cells] using hf)
    injection e with e1 e2 e3
    subst e1 e2 e3
    exact ⟨xs, hl, hi⟩
  obtain ⟨laps, rfl, rfl, rfl, hlaps⟩ := open_int Try.underlying30 (hval 1 30 v1 rfl rfl) h1
  clear hA0 hval0
  refine (walk al ll cl l laps W hl hcl hlaps).mono fun e W' ⟨he, bel⟩ => ?_
  subst he
  exact ⟨_, rfl, _, _, _, [], _, [], hW', trodAll_mk1 (shut_bool Try.underlying4 _), (trodAll_cons_mk (Below.trod laidOut (by kernel_rfl) (of_decide_eq_true (by kernel_rfl)) k0 bel lt0) (trodAll_cons_mk (shut_int Try.underlying30 hlaps) trodAll_mk0)), rfl, bel.frame _, fun h => by cases h⟩

theorem over : Rows.meterLapsRow.holds Try.pinned (OpenSpec.ofChange Rows.meterLapsSpec) :=
  OpenClaim.holds_of_wide 4 Try.f4 rfl rfl rfl rfl rfl rfl rfl ⟨rfl, rfl, rfl, rfl, rfl⟩ rfl rfl rfl rfl rfl (by kernel_rfl) Try.func4 (by kernel_rfl)
    (of_decide_eq_true (by kernel_rfl)) (by unfold Func.isWrapper; first | (rw [if_pos (by decide +kernel)]; kernel_rfl) | (rw [if_neg (by decide +kernel)]; exact ⟨rfl, rfl⟩))
    (fun os started H enc _ => lifted os started H enc)

theorem proved : Rows.MeterLapsSaid := over
#print axioms proved
end Go.Proofs.Ytiajhogecckceaa.meterLaps
