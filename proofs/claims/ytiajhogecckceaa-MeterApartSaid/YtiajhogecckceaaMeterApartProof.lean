/-
  MeterApart: whatever two slices of ints come in, the law returns true, and the input reads behind the call as it did.
-/
import Derived.Test.YtiajhogecckceaaRows
import Derived.WalkKit
import Derived.ProofKit
import Derived.OpenShut
import Derived.Test.YtiajhogecckceaaMeterAwake
import Derived.Test.YtiajhogecckceaaMeterRun
import Derived.Test.YtiajhogecckceaaMeterRef
import Derived.ShutString
import Derived.ChangeOld
import Derived.Below
namespace Go.Proofs.Ytiajhogecckceaa.meterApart
open Go.ChangeShapes Go.WideShapes Go.ChangeAt Go.RowKit
open Go.ChangeMaps (open_string shut_string)
set_option linter.unusedVariables false

theorem own : ownKnob Try.prog.godebug = none := by kernel_rfl
theorem laidOut : laidOutB Try.prog = true := by kernel_rfl

theorem total_over {xs : List Int} {k : Nat} (h : xs.length ≤ k) : total 0 (xs.take (k + 1)) = total 0 (xs.take k) := by
  rw [List.take_of_length_le h, List.take_of_length_le (by omega)]
/-- The first k of both are charged, each to its own meter; below B all is as it was. -/
structure Two (a b : List Int) (g f B : Nat) (w : World) (k : Nat) (w' : World) : Prop where
  below : Below B w w'
  one : Mt w' g (total 0 (a.take k)) 0
  two : Mt w' f (total 0 (b.take k)) 0
structure Half (a b : List Int) (g f B : Nat) (w : World) (k : Nat) (w' : World) : Prop where
  below : Below B w w'
  one : Mt w' g (total 0 (a.take (k + 1))) 0
  two : Mt w' f (total 0 (b.take k)) 0
section
variable {a b : List Int} {g f B : Nat} {w w' w'' : World} {k : Nat} {x : Int}
theorem Two.half (h : Two a b g f B w k w') (hx : a[k]? = some x) (hB : B ≤ w.heap.size) (hg : B ≤ g) (hn : f ≠ g) (m : Mt w'' g (more (total 0 (a.take k)) x) 0) (c : But (· = g) w' w'') : Half a b g f B w k w'' :=
  ⟨h.below.trans (c.one (Nat.le_trans hB h.below.size) hg), by rw [total_take 0 hx]; exact m, h.two.but c hn⟩
theorem Two.skip (h : Two a b g f B w k w') (hl : a.length ≤ k) : Half a b g f B w k w' := ⟨h.below, by rw [total_over hl]; exact h.one, h.two⟩
theorem Half.full (h : Half a b g f B w k w') (hx : b[k]? = some x) (hB : B ≤ w.heap.size) (hf : B ≤ f) (hn : g ≠ f) (m : Mt w'' f (more (total 0 (b.take k)) x) 0) (c : But (· = f) w' w'') : Two a b g f B w (k + 1) w'' :=
  ⟨h.below.trans (c.one (Nat.le_trans hB h.below.size) hf), h.one.but c hn, by rw [total_take 0 hx]; exact m⟩
theorem Half.skip (h : Half a b g f B w k w') (hl : b.length ≤ k) : Two a b g f B w (k + 1) w' := ⟨h.below, h.one, by rw [total_over hl]; exact h.two⟩
end

/-! ### The walk -/
theorem walk (aa : Option Addr) (la ca : Nat) (a : List Int) (ab : Option Addr) (lb cb : Nat) (b : List Int) (w : World) (ha : Ints w w.heap.size aa la a) (hca : la ≤ ca) (hb : Ints w w.heap.size ab lb b) (hcb : lb ≤ cb) :
    Calls Try.prog 7 #[.slice aa la ca, .slice ab lb cb] w fun e w' => e = .returned (.bool true) ∧ Below w.heap.size w w' := by
  have hmax := ha.max
  have hmaxb := hb.max
  have HLA := Lib.hid ha.len
  have HLB := Lib.hid hb.len
  go_enter Try.func7, Try.ntmps7
  go_wp2_with fail
  refine (awake05_any w).mono ?_
  rintro e w0 ⟨rfl, h0⟩
  by_cases h60 : 60 < la
  · have d : decide ((60 : Int) < (la : Int)) = true := by simp; omega
    go_wp2
    go_ret
    exact ⟨rfl, h0⟩
  · have d : decide ((60 : Int) < (la : Int)) = false := by simp; omega
    by_cases g60 : 60 < lb
    · have d2 : decide ((60 : Int) < (lb : Int)) = true := by simp; omega
      go_wp2
      go_ret
      exact ⟨rfl, h0⟩
    · have d2 : decide ((60 : Int) < (lb : Int)) = false := by simp; omega
      go_wp2_with fail
      refine (new_any w0).mono ?_
      rintro e w1 ⟨rfl, m1, b1, s1⟩
      go_wp2_with fail
      refine (new_any w1).mono ?_
      rintro e w2 ⟨rfl, m2, b2, s2⟩
      have hB : Below w.heap.size w w2 := belowT (belowT h0 b1) b2
      have hA1 : Ints w2 w.heap.size aa la a := ha.below hB
      have hB1 : Ints w2 w.heap.size ab lb b := hb.below hB
      have HB := Lib.hid hB
      have HS := Lib.hid hB.size
      have HG := Lib.hid h0.size
      have HF : Hid (w.heap.size ≤ w1.heap.size) := Lib.hid (Nat.le_trans h0.size b1.size)
      have HN : Hid (w0.heap.size ≠ w1.heap.size) := Lib.hid (by omega)
      have m1' := m1.below b2
      generalize w0.heap.size = g at *
      generalize w1.heap.size = f at *
      clear h0 hB b1 b2 s1 s2 m1
      go_wp2
      go_loopw [8] (fun i wr => ∃ k : Nat, k ≤ 60 ∧ i = .int .i64 k ∧ Two a b g f w.heap.size w2 k wr) (fun i _ => 60 - (intOf i).toNat)
      case atStart => exact ⟨0, Nat.zero_le _, rfl, Below.refl _ _, m1', m2⟩
      case round =>
        obtain ⟨k, hk, rfl, hr⟩ := hrel
        clear m1' m2
        have hA : Ints wr w.heap.size aa la a := hA1.below hr.below
        have hB : Ints wr w.heap.size ab lb b := hB1.below hr.below
        by_cases ka : k < la
        · have da : decide ((k : Int) < (la : Int)) = true := by simp; omega
          obtain ⟨x, hx, x1, x2⟩ := hA.at_ ka
          obtain ⟨p, o, rfl, hp, hc⟩ := hA.head (by omega)
          have hcell := hc k x hx
          have HX := Lib.hid hx
          have HC := Lib.hid (charge_any g _ 0 x wr hr.one)
          clear hc hx
          go_wp2_with fail
          refine HC.out.mono ?_
          rintro e w3 ⟨rfl, m3, b3⟩
          have HH := Lib.hid (hr.half HX.out HS.out HG.out HN.out.symm m3 b3)
          clear m3 b3 HC
          by_cases kb : k < lb
          · have db : decide ((k : Int) < (lb : Int)) = true := by simp; omega
            have hB2 := hB1.below HH.out.below
            obtain ⟨y, hy, y1, y2⟩ := hB2.at_ kb
            obtain ⟨p2, o2, rfl, hp2, hc2⟩ := hB2.head (by omega)
            have hcell2 := hc2 k y hy
            have HY := Lib.hid hy
            have HC2 := Lib.hid (charge_any f _ 0 y w3 HH.out.two)
            clear hc2 hy
            go_wp2_with fail
            refine HC2.out.mono ?_
            rintro e w4 ⟨rfl, m4, b4⟩
            have HT := Lib.hid (HH.out.full HY.out HS.out HF.out HN.out m4 b4)
            clear m4 b4 HC2
            go_wp2
            go_roundw
            case rel => exact ⟨k + 1, by omega, by go_num, HT.out⟩
            case measure => simp [intOf]; omega
          · have db : decide ((k : Int) < (lb : Int)) = false := by simp; omega
            have HT := Lib.hid (HH.out.skip (by rw [HLB.out]; omega))
            go_wp2
            go_roundw
            case rel => exact ⟨k + 1, by omega, by go_num, HT.out⟩
            case measure => simp [intOf]; omega
        · have da : decide ((k : Int) < (la : Int)) = false := by simp; omega
          have HH := Lib.hid (hr.skip (by rw [HLA.out]; omega))
          by_cases kb : k < lb
          · have db : decide ((k : Int) < (lb : Int)) = true := by simp; omega
            obtain ⟨y, hy, y1, y2⟩ := hB.at_ kb
            obtain ⟨p2, o2, rfl, hp2, hc2⟩ := hB.head (by omega)
            have hcell2 := hc2 k y hy
            have HY := Lib.hid hy
            have HC2 := Lib.hid (charge_any f _ 0 y wr hr.two)
            clear hc2 hy
            go_wp2_with fail
            refine HC2.out.mono ?_
            rintro e w4 ⟨rfl, m4, b4⟩
            have HT := Lib.hid (HH.out.full HY.out HS.out HF.out HN.out m4 b4)
            clear m4 b4 HC2
            go_wp2
            go_roundw
            case rel => exact ⟨k + 1, by omega, by go_num, HT.out⟩
            case measure => simp [intOf]; omega
          · have db : decide ((k : Int) < (lb : Int)) = false := by simp; omega
            have EA : Hid (total 0 (a.take k) = total 0 a) := Lib.hid (by rw [List.take_of_length_le (by rw [HLA.out]; omega)])
            have EB : Hid (total 0 (b.take k) = total 0 b) := Lib.hid (by rw [List.take_of_length_le (by rw [HLB.out]; omega)])
            have HR := Lib.hid hr
            clear hr HH
            go_wp2_with fail
            refine (total_any g _ 0 _ HR.out.one).mono ?_
            rw [EA.out]
            rintro e w3 ⟨rfl, rfl⟩
            go_wp2_with fail
            refine (refSum_any _ _ ca _ _ _ hA).mono ?_
            rintro e w3 ⟨rfl, rfl⟩
            go_wp2_with fail
            refine (total_any f _ 0 _ HR.out.two).mono ?_
            rw [EB.out]
            rintro e w3 ⟨rfl, rfl⟩
            go_wp2_with fail
            refine (refSum_any _ _ cb _ _ _ hB).mono ?_
            rintro e w3 ⟨rfl, rfl⟩
            go_wp2
            go_ret
            exact ⟨rfl, HB.out.trans HR.out.below⟩

/-! ### The frame of the row -/
set_option maxRecDepth 100000 in
theorem lifted (os : Os) (started : os.Started) (H : Type) (enc : TypeId × Value → H) :
    ReturnsInHanded {} Try.checked os 7 .any (Rows.meterApartSpec.pre6 enc Try.prog Try.f7 Rows.meterApartRow.domain false) (Rows.meterApartSpec.post enc Try.prog Try.f7 false true false false) := by
  refine returnsInHanded_of_change (C := Try.checked) own started (by kernel_rfl) Try.func7
    (ChangeSpec.witness6 (enc := enc) (C := Try.checked) false ⟨#[], #[.slice none 0 0, .slice none 0 0], []⟩ 8 (by kernel_rfl) (by kernel_rfl) (by kernel_rfl) (by kernel_rfl)) ?_
  intro W base args ds gs before hval0 hW hcnd _
  have hval : ∀ (j : Nat) t v, Try.f7.params[j]? = some t → args[j]? = some v → Value.okWide Try.prog W .any base t v := hval0
  have hW' := hW
  obtain ⟨p, q, hA0, hV, rfl, hfz, hnd⟩ := hW
  have hA : DataW.TrodAll enc Try.prog W 0 (fun _ => true) true Try.f7.params.toList args.toList ds p := hA0
  rw [Try.params7] at hA hval
  obtain ⟨v0, vs0, d0, ds0, p0, q0, hargs, rfl, rfl, h0, r0⟩ := trodAll_cons hA
  obtain ⟨v1, vs1, d1, ds1, p1, q1, rfl, rfl, rfl, h1, r1⟩ := trodAll_cons r0
  obtain ⟨rfl, rfl, rfl⟩ := trodAll_nil r1
  obtain rfl : args = #[v0, v1] := by cases args; simp_all
  obtain ⟨rfl, rfl⟩ := trodVars_none hV
  have k0 := h0
  have lt0 : ∀ x ∈ p0, x.block < W.heap.size := by obtain ⟨m, hm⟩ := k0; exact DataW.trod_lt m _ _ _ hm
  obtain ⟨aa, la, ca, rfl⟩ := okWide_slice Try.underlying22 (hval 0 22 v0 rfl rfl)
  obtain ⟨a, hca, ha⟩ : ∃ xs, la ≤ ca ∧ Ints W W.heap.size aa la xs := by
    obtain ⟨fuel, hf⟩ := h0
    obtain ⟨a, l, c, xs, e, hl, hi⟩ := ints_field (by simpa [Value.cells] using hf)
    injection e with e1 e2 e3
    subst e1 e2 e3
    exact ⟨xs, hl, hi⟩
  have k1 := h1
  have lt1 : ∀ x ∈ p1, x.block < W.heap.size := by obtain ⟨m, hm⟩ := k1; exact DataW.trod_lt m _ _ _ hm
  obtain ⟨ab, lb, cb, rfl⟩ := okWide_slice Try.underlying22 (hval 1 22 v1 rfl rfl)
  obtain ⟨b, hcb, hb⟩ : ∃ xs, lb ≤ cb ∧ Ints W W.heap.size ab lb xs := by
    obtain ⟨fuel, hf⟩ := h1
    obtain ⟨a, l, c, xs, e, hl, hi⟩ := ints_field (by simpa [Value.cells] using hf)
    injection e with e1 e2 e3
    subst e1 e2 e3
    exact ⟨xs, hl, hi⟩
  clear hA0 hval0
  refine (walk aa la ca a ab lb cb b W ha hca hb hcb).mono fun e W' ⟨he, bel⟩ => ?_
  subst he
  exact ⟨_, rfl, _, _, _, [], _, [], hW', trodAll_mk1 (shut_bool Try.underlying4 _), (trodAll_cons_mk (Below.trod laidOut (by kernel_rfl) (of_decide_eq_true (by kernel_rfl)) k0 bel lt0) (trodAll_cons_mk (Below.trod laidOut (by kernel_rfl) (of_decide_eq_true (by kernel_rfl)) k1 bel lt1) trodAll_mk0)), rfl, bel.frame _, fun h => by cases h⟩

theorem over : Rows.meterApartRow.holds Try.pinned (OpenSpec.ofChange Rows.meterApartSpec) :=
  OpenClaim.holds_of_wide 7 Try.f7 rfl rfl rfl rfl rfl rfl rfl ⟨rfl, rfl, rfl, rfl, rfl⟩ rfl rfl rfl rfl rfl (by kernel_rfl) Try.func7 (by kernel_rfl)
    (of_decide_eq_true (by kernel_rfl)) (by unfold Func.isWrapper; first | (rw [if_pos (by decide +kernel)]; kernel_rfl) | (rw [if_neg (by decide +kernel)]; exact ⟨rfl, rfl⟩))
    (fun os started H enc _ => lifted os started H enc)

theorem proved : Rows.MeterApartSaid := over
#print axioms proved
end Go.Proofs.Ytiajhogecckceaa.meterApart
