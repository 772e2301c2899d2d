/-
  almerylaw17.NeedMost returns true for every layout, every slice of ints and every slice of bools, and all memory that was there is as it was. No condition.
-/
import Derived.Test.YtkcdehnpkephgaaRows
import Derived.WalkKit
import Derived.ProofKit
import Derived.OpenShut
import Derived.Test.YtkcdehnpkephgaaNeedAwake
import Derived.Test.YtkcdehnpkephgaaNeedRefMost
import Derived.Test.YtkcdehnpkephgaaConfRefMay
import Derived.Test.YtkcdehnpkephgaaConfOpen
import Derived.Test.YtkcdehnpkephgaaBoolsOpen
import Derived.ShutString
import Derived.ChangeOld
import Derived.Below
namespace Go.Proofs.Ytkcdehnpkephgaa.needMost
open Go.ChangeShapes Go.WideShapes Go.ChangeAt Go.RowKit
open Go.ChangeMaps (open_string shut_string)
set_option linter.unusedVariables false

theorem own : ownKnob Try.prog.godebug = none := by kernel_rfl
theorem laidOut : laidOutB Try.prog = true := by kernel_rfl

theorem liveN_far {c : Cf} (h : MayC c) {l : List Int} {k : Int} (hk : (c.xs.length : Int) ≤ k) : liveN c l k = 0 := by
  unfold liveN
  rw [List.countP_eq_zero]
  intro x _ hx
  simp [liveB, isT] at hx
  obtain ⟨_, ⟨h1, _⟩, h3⟩ := hx
  by_cases q : x ≤ small c
  · obtain ⟨j, hj, e⟩ := h.pick_small h1 q
    omega
  · have := h.pick_large (s := x) (by omega)
    have := h.one
    omega

/-! ### The walk -/
set_option maxRecDepth 20000 in
set_option maxHeartbeats 2000000 in
theorem walk (c : Cf) (al : Option Addr) (ll cl : Nat) (l : List Int) (am : Option Addr) (lm cm : Nat) (m : List Bool) (w : World) (hc : c.Ok w w.heap.size) (hcc : c.cn ≤ c.cc) (hkc : c.kn ≤ c.kc) (hl : Ints w w.heap.size al ll l) (hcl : ll ≤ cl) (hm : Bools w w.heap.size am lm m) (hcm : lm ≤ cm) :
    Calls Try.prog 4 #[.agg #[.int .i64 c.size, .int .i64 c.pages, .slice c.ca c.cn c.cc, .slice c.ka c.kn c.kc, .int .i64 c.step, .int .i64 c.slots, .int .i64 c.gens, .int .i64 c.most], .slice al ll cl, .slice am lm cm] w fun e w' => e = .returned (.bool true) ∧ Below w.heap.size w w' := by
  have hmax := hl.max
  have hmaxm := hm.max
  have B0 := Boxed.new w c
  have b0 := below1 w (.cells #[.int .i64 c.size, .int .i64 c.pages, .slice c.ca c.cn c.cc, .slice c.ka c.kn c.kc, .int .i64 c.step, .int .i64 c.slots, .int .i64 c.gens, .int .i64 c.most] 24)
  have O0 := hc.on b0
  have L0 := hl.on b0
  have M0 := hm.on b0
  clear hc hl hm
  go_enter Try.func4, Try.ntmps4
  go_wp2_with fail
  refine (awake17_any _).mono ?_
  rintro e w1 ⟨rfl, f1⟩
  have B1 := B0.on f1
  have O1 := Lib.hid (O0.on f1)
  have L1 := Lib.hid (L0.on f1)
  have M1 := Lib.hid (M0.on f1)
  have b1 := Lib.hid (belowT b0 f1)
  clear f1 B0 O0 b0 L0 M0
  have ⟨x0, x1, x2, x3, x4, x5, x6, x7, x8⟩ := B1
  have HM := refConfMay_any c w1 O1.out
  cases hB : confB c with
  | false =>
    rw [confMay_off hB] at HM
    have H := Lib.hid HM
    clear HM hB
    go_wp2_with fail
    refine H.out.mono ?_
    rintro e w2 ⟨rfl, f2⟩
    go_wp2
    go_ret
    exact ⟨rfl, belowT b1.out f2⟩
  | true =>
    rw [confMay_on hB] at HM
    have H := Lib.hid HM
    have M := Lib.hid (mayC hB)
    clear HM hB
    by_cases h60 : 60 < ll
    · have d60 : decide ((60 : Int) < (ll : Int)) = true := decide_eq_true (by omega)
      have d60' : decide (60 < ll) = true := decide_eq_true h60
      go_wp2_with fail
      refine H.out.mono ?_
      rintro e w2 ⟨rfl, f2⟩
      go_wp2
      go_ret
      exact ⟨rfl, belowT b1.out f2⟩
    · have d60 : decide ((60 : Int) < (ll : Int)) = false := decide_eq_false (by omega)
      have d60' : decide (60 < ll) = false := decide_eq_false h60
      by_cases h61 : 60 < lm
      · have d61 : decide ((60 : Int) < (lm : Int)) = true := decide_eq_true (by omega)
        have d61' : decide (60 < lm) = true := decide_eq_true h61
        go_wp2_with fail
        refine H.out.mono ?_
        rintro e w2 ⟨rfl, f2⟩
        go_wp2
        go_ret
        exact ⟨rfl, belowT b1.out f2⟩
      · have d61 : decide ((60 : Int) < (lm : Int)) = false := decide_eq_false (by omega)
        have d61' : decide (60 < lm) = false := decide_eq_false h61
        go_wp2_with fail
        refine H.out.mono ?_
        rintro e w2 ⟨rfl, f2⟩
        have B2 := B1.on f2
        have HP := Lib.hid (needMost_any c al ll cl l am lm cm m w2 (O1.out.on f2) M.out (L1.out.on f2) (by omega) (M1.out.on f2))
        have O2 := Lib.hid (O1.out.on f2)
        have L2 := Lib.hid (L1.out.on f2)
        have M2 := Lib.hid (M1.out.on f2)
        have b2 := Lib.hid (belowT b1.out f2)
        clear f2 b1 O1 L1 M1 B1 H x0 x1 x2 x3 x4 x5 x6 x7 x8
        have ⟨x0, x1, x2, x3, x4, x5, x6, x7, x8⟩ := B2
        go_wp2_with fail
        refine HP.out.mono ?_
        rintro e w3 ⟨rfl, f3⟩
        have B3 := B2.on f3
        have HR := Lib.hid (refMost_any c al ll cl l am lm cm m w3 (O2.out.on f3) M.out (L2.out.on f3) (by omega) (M2.out.on f3))
        have O3 := Lib.hid (O2.out.on f3)
        have L3 := Lib.hid (L2.out.on f3)
        have b3 := Lib.hid (belowT b2.out f3)
        clear f3 b2 O2 L2 M2 B2 HP x0 x1 x2 x3 x4 x5 x6 x7 x8
        have ⟨x0, x1, x2, x3, x4, x5, x6, x7, x8⟩ := B3
        go_wp2_with fail
        refine HR.out.mono ?_
        rintro e w4 ⟨rfl, f4⟩
        have B4 := Lib.hid (B3.on f4)
        have O4 := Lib.hid (O3.out.on f4)
        have L4 := Lib.hid (L3.out.on f4)
        have b4 := Lib.hid (belowT b3.out f4)
        have hcn : c.cn ≤ 16 := by have := M.out.few; have := O4.out.classes.len; omega
        have HCL := Lib.hid O4.out.classes.len
        clear f4 b3 O3 L3 B3 HR x0 x1 x2 x3 x4 x5 x6 x7 x8
        go_wp2
        go_loopw [12] (fun i wr => ∃ k : Nat, k ≤ c.cn + 2 ∧ i = .int .i64 ((k : Int) - 1) ∧ Hid (Below w4.heap.size w4 wr)) (fun i _ => c.cn + 2 - (intOf i + 1).toNat)
        case atStart => exact ⟨0, by omega, rfl, Lib.hid (Below.refl _ _)⟩
        case round =>
          obtain ⟨k, hk, rfl, bw⟩ := hrel
          have Bw := B4.out.on bw.out
          have ⟨x0, x1, x2, x3, x4, x5, x6, x7, x8⟩ := Bw
          obtain ⟨z, hz⟩ : ∃ z, z = (k : Int) - 1 := ⟨_, rfl⟩
          have hzb : -1 ≤ z ∧ z ≤ (c.cn : Int) + 1 := by omega
          have HZ := Lib.hid (show intOf (.int .i64 z) = (k : Int) - 1 from hz)
          rw [← hz]
          by_cases hlk : k < c.cn + 2
          · have dk : decide (z ≤ (c.cn : Int)) = true := decide_eq_true (by omega)
            have hzk : z ≤ (c.cn : Int) := by omega
            have HA := Lib.hid (fun v (hv : Below w4.heap.size w4 v) => needLive_any c al ll cl l z v (O4.out.on hv) M.out (L4.out.on hv) (by omega))
            have HB := Lib.hid (fun v (hv : Below w4.heap.size w4 v) => refLive_any c al ll cl l z v (O4.out.on hv) (L4.out.on hv) (by omega))
            have e : (if z < (c.xs.length : Int) then ((liveN c l z : Nat) : Int) else 0) = ((liveN c l z : Nat) : Int) := by
              by_cases q : z < (c.xs.length : Int)
              · rw [if_pos q]
              · rw [if_neg q, liveN_far M.out (by omega)]
                rfl
            rw [e] at HA
            have HZ2 := Lib.hid hz
            clear e hz
            generalize ((liveN c l z : Nat) : Int) = y at *
            have dy : (y != y) = false := by simp
            go_wp2_with fail
            go_region_held3 (fun w' => w'.cell? ⟨w.heap.size, 0, none⟩ = some (.int .i64 c.size) ∧ w'.cell? ⟨w.heap.size, 1, none⟩ = some (.int .i64 c.pages) ∧
              w'.cell? ⟨w.heap.size, 2, none⟩ = some (.slice c.ca c.cn c.cc) ∧ w'.cell? ⟨w.heap.size, 3, none⟩ = some (.slice c.ka c.kn c.kc) ∧
              w'.cell? ⟨w.heap.size, 4, none⟩ = some (.int .i64 c.step) ∧ w'.cell? ⟨w.heap.size, 5, none⟩ = some (.int .i64 c.slots) ∧
              w'.cell? ⟨w.heap.size, 6, none⟩ = some (.int .i64 c.gens) ∧ w'.cell? ⟨w.heap.size, 7, none⟩ = some (.int .i64 c.most))
              (first | exact ⟨x0, x1, x2, x3, x4, x5, x6, x7⟩ | exact keep8 f5 x8 (by assumption) | exact keep8 f6 (Nat.lt_of_lt_of_le x8 f5.size) (by assumption) | assumption | go_keep)
              (first
                | (go_at_call 14; refine (HA.out _ (belowD bw.out)).mono ?_; rintro e w5 ⟨rfl, f5⟩)
                | (go_at_call 15; refine (HB.out _ ((belowD bw.out).trans (Below.mono f5 bw.out.size))).mono ?_; rintro e w6 ⟨rfl, f6⟩))
            have b7 : Hid (Below w4.heap.size w4 w6) := Lib.hid (bw.out.trans ((Below.mono (show Below wr.heap.size wr w5 from ⟨f5.os, f5.tape, f5.output, f5.size, f5.block⟩) bw.out.size).trans (Below.mono f6 (Nat.le_trans bw.out.size f5.size))))
            clear f5 f6
            go_wp2
            go_roundw
            case rel =>
              refine ⟨k + 1, by omega, ?_, b7⟩
              have := HZ2.out
              congr 1
              omega
            case measure =>
              have := HZ2.out
              simp [intOf]
              omega
          · have dk : decide (z ≤ (c.cn : Int)) = false := decide_eq_false (by omega)
            have hzk : ¬ z ≤ (c.cn : Int) := by omega
            clear hz
            go_wp2
            go_ret
            exact ⟨rfl, b4.out.trans (bw.out.mono b4.out.size)⟩

/-! ### The frame of the row -/
set_option maxRecDepth 100000 in
theorem lifted (os : Os) (started : os.Started) (H : Type) (enc : TypeId × Value → H) :
    ReturnsInHanded {} Try.checked os 4 .any (Rows.needMostSpec.pre6 enc Try.prog Try.f4 Rows.needMostRow.domain false) (Rows.needMostSpec.post enc Try.prog Try.f4 false true false false) := by
  refine returnsInHanded_of_change (C := Try.checked) own started (by kernel_rfl) Try.func4
    (ChangeSpec.witness6 (enc := enc) (C := Try.checked) false ⟨#[], #[.agg #[.int .i64 0, .int .i64 0, .slice none 0 0, .slice none 0 0, .int .i64 0, .int .i64 0, .int .i64 0, .int .i64 0], .slice none 0 0, .slice none 0 0], []⟩ 8 (by kernel_rfl) (by kernel_rfl) (by kernel_rfl) (by kernel_rfl)) ?_
  intro W base args ds gs before hval0 hW hcnd _
  have hval : ∀ (j : Nat) t v, Try.f4.params[j]? = some t → args[j]? = some v → Value.okWide Try.prog W .any base t v := hval0
  have hW' := hW
  obtain ⟨p, q, hA0, hV, rfl, hfz, hnd⟩ := hW
  have hA : DataW.TrodAll enc Try.prog W 0 (fun _ => true) true Try.f4.params.toList args.toList ds p := hA0
  rw [Try.params4] at hA hval
  obtain ⟨v0, vs0, d0, ds0, p0, q0, hargs, rfl, rfl, h0, r0⟩ := trodAll_cons hA
  obtain ⟨v1, vs1, d1, ds1, p1, q1, rfl, rfl, rfl, h1, r1⟩ := trodAll_cons r0
  obtain ⟨v2, vs2, d2, ds2, p2, q2, rfl, rfl, rfl, h2, r2⟩ := trodAll_cons r1
  obtain ⟨rfl, rfl, rfl⟩ := trodAll_nil r2
  obtain rfl : args = #[v0, v1, v2] := by cases args; simp_all
  obtain ⟨rfl, rfl⟩ := trodVars_none hV
  have k0 := h0
  have lt0 : ∀ x ∈ p0, x.block < W.heap.size := by obtain ⟨m, hm⟩ := k0; exact DataW.trod_lt m _ _ _ hm
  obtain ⟨c, rfl, hc, hcc, hkc⟩ := open_conf (hval 0 24 v0 rfl rfl) h0
  have k1 := h1
  have lt1 : ∀ x ∈ p1, x.block < W.heap.size := by obtain ⟨m, hm⟩ := k1; exact DataW.trod_lt m _ _ _ hm
  obtain ⟨al, ll, cl, rfl⟩ := okWide_slice Try.underlying22 (hval 1 22 v1 rfl rfl)
  obtain ⟨l, hcl, hl⟩ : ∃ xs, ll ≤ cl ∧ Ints W W.heap.size al ll xs := by
    obtain ⟨fuel, hf⟩ := h1
    obtain ⟨a, l, c, xs, e, hl, hi⟩ := ints_field (by simpa [Value.cells] using hf)
    injection e with e1 e2 e3
    subst e1 e2 e3
    exact ⟨xs, hl, hi⟩
  have k2 := h2
  have lt2 : ∀ x ∈ p2, x.block < W.heap.size := by obtain ⟨m, hm⟩ := k2; exact DataW.trod_lt m _ _ _ hm
  obtain ⟨am, lm, cm, rfl⟩ := okWide_slice Try.underlying33 (hval 2 33 v2 rfl rfl)
  obtain ⟨m, hcm, hm⟩ : ∃ xs, lm ≤ cm ∧ Bools W W.heap.size am lm xs := by
    obtain ⟨fuel, hf⟩ := h2
    obtain ⟨a, l, c, xs, e, hl, hi⟩ := bools_field (by simpa [Value.cells] using hf)
    injection e with e1 e2 e3
    subst e1 e2 e3
    exact ⟨xs, hl, hi⟩
  clear hA0 hval0
  refine (walk c al ll cl l am lm cm m W hc hcc hkc hl hcl hm hcm).mono fun e W' ⟨he, bel⟩ => ?_
  subst he
  exact ⟨_, rfl, _, _, _, [], _, [], hW', trodAll_mk1 (shut_bool Try.underlying4 _), (trodAll_cons_mk (Below.trod laidOut (by kernel_rfl) (of_decide_eq_true (by kernel_rfl)) k0 bel lt0) (trodAll_cons_mk (Below.trod laidOut (by kernel_rfl) (of_decide_eq_true (by kernel_rfl)) k1 bel lt1) (trodAll_cons_mk (Below.trod laidOut (by kernel_rfl) (of_decide_eq_true (by kernel_rfl)) k2 bel lt2) trodAll_mk0))), rfl, bel.frame _, fun h => by cases h⟩

theorem over : Rows.needMostRow.holds Try.pinned (OpenSpec.ofChange Rows.needMostSpec) :=
  OpenClaim.holds_of_wide 4 Try.f4 rfl rfl rfl rfl rfl rfl rfl ⟨rfl, rfl, rfl, rfl, rfl⟩ rfl rfl rfl rfl rfl (by kernel_rfl) Try.func4 (by kernel_rfl)
    (of_decide_eq_true (by kernel_rfl)) (by unfold Func.isWrapper; first | (rw [if_pos (by decide +kernel)]; kernel_rfl) | (rw [if_neg (by decide +kernel)]; exact ⟨rfl, rfl⟩))
    (fun os started H enc _ => lifted os started H enc)

theorem proved : Rows.NeedMostSaid := over
#print axioms proved
end Go.Proofs.Ytkcdehnpkephgaa.needMost
