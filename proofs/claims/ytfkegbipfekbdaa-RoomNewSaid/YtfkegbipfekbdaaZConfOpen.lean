import Derived.Test.YtfkegbipfekbdaaZConfRefLarge
import Derived.Test.YtfkegbipfekbdaaZClassMay
import Derived.Deep.RegionHeld3
import Derived.Test.YtfkegbipfekbdaaZChainNum
import Derived.Deep.Fields
import Derived.Deep.Slices
import Derived.ChangeSame
import Derived.ShutString
import Derived.ChangeOld
import Derived.Below
/-
  The document's own May of chapter 3 (almeryref03.May), met by a contract: of whatever layout comes in, it returns the plain answer 'confMay', and leaves all memory that was there as it was.
-/
namespace Go.Proofs.Ytfkegbipfekbdaa
open Go.ChangeShapes Go.WideShapes Go.ChangeAt Go.RowKit

set_option maxRecDepth 100000 in
set_option maxHeartbeats 3200000 in
theorem refConfMay_any (c : Cf) (w : World) (hc : c.Ok w w.heap.size) :
    Calls Try.prog 7 #[(.agg #[.int .i64 c.size, .int .i64 c.pages, .slice c.ca c.cn c.cc, .slice c.ka c.kn c.kc, .int .i64 c.step, .int .i64 c.slots, .int .i64 c.gens, .int .i64 c.most])] w (IB (confMay c) w) := by
  have HC := hc.classes
  have HK := hc.keep
  have HKL := Lib.hid hc.keep.len
  have hmaxC := hc.classes.max
  have hmaxK := hc.keep.max
  have HL := refLarge_any c (w.alloc (.cells #[.int .i64 c.size, .int .i64 c.pages, .slice c.ca c.cn c.cc, .slice c.ka c.kn c.kc, .int .i64 c.step, .int .i64 c.slots, .int .i64 c.gens, .int .i64 c.most] 24))
  obtain ⟨l1, l2⟩ := large_bounds c.size
  clear hc
  cases hs : sizeB c.size with
  | false =>
    have HF := Lib.hid (confMay_off (c := c) (by simp [confB, hs]))
    rw [large_off hs] at HL
    have H := Lib.hid HL
    clear HL hs
    go_enter Try.func7, Try.ntmps7
    go_wp2_with fail
    refine H.out.mono ?_
    rintro e w' ⟨rfl, rfl⟩
    go_wp2
    go_ret
    rw [HF.out]
    exact ⟨rfl, below2 _ _ _⟩
  | true =>
    have hlz : (large c.size == 0) = false := by have := large_pos hs; simp; omega
    have H := Lib.hid HL
    have HS := Lib.hid hs
    clear HL hs
    by_cases p1 : c.pages < 1
    · have HF := Lib.hid (confMay_off (c := c) (by simp [confB, inB_low p1]))
      go_enter Try.func7, Try.ntmps7
      go_wp2_with fail
      refine H.out.mono ?_
      rintro e w' ⟨rfl, rfl⟩
      go_wp2
      go_ret
      rw [HF.out]
      exact ⟨rfl, below2 _ _ _⟩
    · by_cases p2 : 1024 < c.pages
      · have HF := Lib.hid (confMay_off (c := c) (by simp [confB, inB_high p2]))
        go_enter Try.func7, Try.ntmps7
        go_wp2_with fail
        refine H.out.mono ?_
        rintro e w' ⟨rfl, rfl⟩
        go_wp2
        go_ret
        rw [HF.out]
        exact ⟨rfl, below2 _ _ _⟩
      · have HP := Lib.hid (inB_true.2 (⟨by omega, by omega⟩ : 1 ≤ c.pages ∧ c.pages ≤ 1024))
        have HM := refMay_any c.ca c.cn c.cc c.xs c.size w.heap.size ((w.alloc (.cells #[.int .i64 c.size, .int .i64 c.pages, .slice c.ca c.cn c.cc, .slice c.ka c.kn c.kc, .int .i64 c.step, .int .i64 c.slots, .int .i64 c.gens, .int .i64 c.most] 24)).alloc (.cells #[.int .i64 c.size, .int .i64 c.pages, .slice c.ca c.cn c.cc, .slice c.ka c.kn c.kc, .int .i64 c.step, .int .i64 c.slots, .int .i64 c.gens, .int .i64 c.most] 24)) ((HC.alloc (Nat.le_refl _) _).alloc (by simp) _)
        cases hm : mayB c.xs c.size with
        | false =>
          have HF := Lib.hid (confMay_off (c := c) (by simp [confB, hm]))
          rw [show may c.xs c.size = 1 by simp [may, hm]] at HM
          have HM2 := Lib.hid HM
          clear HM hm
          go_enter Try.func7, Try.ntmps7
          go_wp2_with fail
          refine H.out.mono ?_
          rintro e w' ⟨rfl, rfl⟩
          go_wp2_with fail
          refine HM2.out.mono ?_
          rintro e w' ⟨rfl, d, rfl⟩
          go_wp2
          go_ret
          rw [HF.out]
          exact ⟨rfl, belowN (below2 _ _ _) _⟩
        | true =>
          rw [show may c.xs c.size = 0 by simp [may, hm]] at HM
          have HM1 := Lib.hid hm
          have HM2 := Lib.hid HM
          clear HM hm
          by_cases hn : c.kn = c.cn
          · have hnb : ((c.kn : Int) != (c.cn : Int)) = false := by simp [hn]
            have HN := Lib.hid hn
            have HMA : Hid (∀ W : World, Ints W w.heap.size c.ca c.cn c.xs → Calls Try.prog 28 #[.slice c.ca c.cn c.cc, .int .i64 c.size] W (RQ 0 W)) := Lib.hid (fun W hW => by
              have := refMay_any c.ca c.cn c.cc c.xs c.size w.heap.size W hW
              rw [show may c.xs c.size = 0 by simp [may, HM1.out]] at this
              exact this)
            have HLA := Lib.hid (fun W => refLarge_any c W)
            have dp1 : decide (c.pages < 1) = false := by simpa using p1
            have dp2 : decide (1024 < c.pages) = false := by simpa using p2
            clear hn HM2 H
            generalize hka : c.ka = ka at *
            have HKA := Lib.hid hka
            clear hka
            go_enter Try.func7, Try.ntmps7
            go_wp2_with fail
            refine (HLA.out _).mono ?_
            rintro e w' ⟨rfl, rfl⟩
            go_wp2_with fail
            refine (HMA.out _ (by exact (HC.alloc (Nat.le_refl _) _).alloc (by simp) _)).mono ?_
            rintro e w1 ⟨rfl, d, hw1⟩
            have hb : Below w.heap.size w w1 := by rw [hw1]; exact belowN (below2 _ _ _) _
            have e0 : w1.cell? ⟨w.heap.size, 0, none⟩ = some (.int .i64 c.size) := by rw [hw1]; go_simp
            have e1 : w1.cell? ⟨w.heap.size, 1, none⟩ = some (.int .i64 c.pages) := by rw [hw1]; go_simp
            have e2 : w1.cell? ⟨w.heap.size, 2, none⟩ = some (.slice c.ca c.cn c.cc) := by rw [hw1]; go_simp
            have e3 : w1.cell? ⟨w.heap.size, 3, none⟩ = some (.slice ka c.kn c.kc) := by rw [hw1]; go_simp
            have e4 : w1.cell? ⟨w.heap.size, 4, none⟩ = some (.int .i64 c.step) := by rw [hw1]; go_simp
            have e5 : w1.cell? ⟨w.heap.size, 5, none⟩ = some (.int .i64 c.slots) := by rw [hw1]; go_simp
            have e6 : w1.cell? ⟨w.heap.size, 6, none⟩ = some (.int .i64 c.gens) := by rw [hw1]; go_simp
            have e7 : w1.cell? ⟨w.heap.size, 7, none⟩ = some (.int .i64 c.most) := by rw [hw1]; go_simp
            clear hw1 HMA HC
            have HK1 := HK.below hb
            clear HK
            go_wp2
            go_loop [3] (fun i => ∃ k : Nat, k ≤ c.kn ∧ i = .int .i64 k ∧ KeptTo c.ks k) (fun i => c.kn - (intOf i).toNat)
            case atStart => exact ⟨0, Nat.zero_le _, rfl, KeptTo.zero _⟩
            case round =>
              obtain ⟨k, hk, rfl, hl⟩ := hrel
              by_cases hlt : k < c.kn
              · obtain ⟨s, hs, s1, s2⟩ := HK1.at_ hlt
                obtain ⟨b, o, rfl, hbk, hcc⟩ := HK1.head (by omega)
                have hcell := hcc k s hs
                have hlt' : (k : Int) < (c.kn : Int) := by omega
                have HSK := Lib.hid hs
                clear hcc hs HKA
                by_cases v1 : s < 0
                · have HF := Lib.hid (confMay_off (c := c) (by rw [confB, keepB_bad HSK.out (inB_low v1)]; simp))
                  go_wp2
                  go_ret
                  rw [HF.out]
                  exact ⟨rfl, hb⟩
                · by_cases v2 : 1024 < s
                  · have HF := Lib.hid (confMay_off (c := c) (by rw [confB, keepB_bad HSK.out (inB_high v2)]; simp))
                    go_wp2
                    go_ret
                    rw [HF.out]
                    exact ⟨rfl, hb⟩
                  · have HX := hl.next HSK.out (inB_true.2 ⟨by omega, by omega⟩)
                    go_wp2
                    go_round
                    case rel => exact ⟨k + 1, by omega, by go_num, HX⟩
                    case measure => simp [intOf]; omega
              · have HKB := Lib.hid (keepB_done (ks := c.ks) (n := c.cn) (by rw [HKL.out, HN.out]) (by
                  have ek : k = c.cn := by have := HN.out; omega
                  rw [← ek]; exact hl))
                clear hl
                by_cases q1 : c.step < 1
                · have HF := Lib.hid (confMay_off (c := c) (by simp [confB, inB_low q1]))
                  have d1 : decide (c.step < 1) = true := by simpa using q1
                  go_wp2
                  go_quiet (fail)
                  go_wp2
                  go_ret
                  rw [HF.out]
                  exact ⟨rfl, belowN hb _⟩
                have d1 : decide (c.step < 1) = false := by simpa using q1
                by_cases q2 : 65536 < c.step
                · have HF := Lib.hid (confMay_off (c := c) (by simp [confB, inB_high q2]))
                  have d2 : decide (65536 < c.step) = true := by simpa using q2
                  go_wp2
                  go_quiet (fail)
                  go_wp2
                  go_ret
                  rw [HF.out]
                  exact ⟨rfl, belowN hb _⟩
                have d2 : decide (65536 < c.step) = false := by simpa using q2
                by_cases q3 : c.slots < 1
                · have HF := Lib.hid (confMay_off (c := c) (by simp [confB, inB_low q3]))
                  have d3 : decide (c.slots < 1) = true := by simpa using q3
                  go_wp2
                  go_quiet (fail)
                  go_wp2
                  go_ret
                  rw [HF.out]
                  exact ⟨rfl, belowN hb _⟩
                have d3 : decide (c.slots < 1) = false := by simpa using q3
                by_cases q4 : 4096 < c.slots
                · have HF := Lib.hid (confMay_off (c := c) (by simp [confB, inB_high q4]))
                  have d4 : decide (4096 < c.slots) = true := by simpa using q4
                  go_wp2
                  go_quiet (fail)
                  go_wp2
                  go_ret
                  rw [HF.out]
                  exact ⟨rfl, belowN hb _⟩
                have d4 : decide (4096 < c.slots) = false := by simpa using q4
                by_cases q5 : c.gens < 1
                · have HF := Lib.hid (confMay_off (c := c) (by simp [confB, inB_low q5]))
                  have d5 : decide (c.gens < 1) = true := by simpa using q5
                  go_wp2
                  go_quiet (fail)
                  go_wp2
                  go_ret
                  rw [HF.out]
                  exact ⟨rfl, belowN hb _⟩
                have d5 : decide (c.gens < 1) = false := by simpa using q5
                by_cases q6 : 1023 < c.gens
                · have HF := Lib.hid (confMay_off (c := c) (by simp [confB, inB_high q6]))
                  have d6 : decide (1023 < c.gens) = true := by simpa using q6
                  go_wp2
                  go_quiet (fail)
                  go_wp2
                  go_ret
                  rw [HF.out]
                  exact ⟨rfl, belowN hb _⟩
                have d6 : decide (1023 < c.gens) = false := by simpa using q6
                by_cases q7 : c.most < 1
                · have HF := Lib.hid (confMay_off (c := c) (by simp [confB, inB_low q7]))
                  have d7 : decide (c.most < 1) = true := by simpa using q7
                  go_wp2
                  go_quiet (fail)
                  go_wp2
                  go_ret
                  rw [HF.out]
                  exact ⟨rfl, belowN hb _⟩
                have d7 : decide (c.most < 1) = false := by simpa using q7
                have HV : Hid (confB c = !decide (large c.size < c.most)) := Lib.hid (by
                  rw [confB, HS.out, HP.out, HM1.out, HKB.out, inB_true.2 (⟨by omega, by omega⟩ : 1 ≤ c.step ∧ c.step ≤ 65536), inB_true.2 (⟨by omega, by omega⟩ : 1 ≤ c.slots ∧ c.slots ≤ 4096), inB_true.2 (⟨by omega, by omega⟩ : 1 ≤ c.gens ∧ c.gens ≤ 1023), inB_not (show 1 ≤ c.most by omega)]
                  rfl)
                go_wp2
                go_region_held3 (fun w' => w'.cell? ⟨w.heap.size, 0, none⟩ = some (.int .i64 c.size) ∧ w'.cell? ⟨w.heap.size, 1, none⟩ = some (.int .i64 c.pages) ∧
                    w'.cell? ⟨w.heap.size, 2, none⟩ = some (.slice c.ca c.cn c.cc) ∧ w'.cell? ⟨w.heap.size, 3, none⟩ = some (.slice ka c.kn c.kc) ∧
                    w'.cell? ⟨w.heap.size, 4, none⟩ = some (.int .i64 c.step) ∧ w'.cell? ⟨w.heap.size, 5, none⟩ = some (.int .i64 c.slots) ∧
                    w'.cell? ⟨w.heap.size, 6, none⟩ = some (.int .i64 c.gens) ∧ w'.cell? ⟨w.heap.size, 7, none⟩ = some (.int .i64 c.most))
                  (go_keep)
                  (first
                    | (go_at_call 27; refine (HLA.out _).mono ?_; rintro e w' ⟨rfl, rfl⟩))
                cases hv : decide (large c.size < c.most) with
                | true =>
                  have HF := Lib.hid (confMay_off (c := c) (by rw [HV.out, hv]; rfl))
                  go_wp2
                  go_ret
                  rw [HF.out]
                  exact ⟨rfl, belowD (hb.alloc hb.size _)⟩
                | false =>
                  have HF := Lib.hid (confMay_on (c := c) (by rw [HV.out, hv]; rfl))
                  go_wp2
                  go_ret
                  rw [HF.out]
                  exact ⟨rfl, belowD (hb.alloc hb.size _)⟩
          · have HF := Lib.hid (confMay_off (c := c) (by rw [confB, keepB_len (by rw [HKL.out]; exact hn)]; simp))
            have hnb : ((c.kn : Int) != (c.cn : Int)) = true := by simp; omega
            clear hn
            go_enter Try.func7, Try.ntmps7
            go_wp2_with fail
            refine H.out.mono ?_
            rintro e w' ⟨rfl, rfl⟩
            go_wp2_with fail
            refine HM2.out.mono ?_
            rintro e w' ⟨rfl, d, rfl⟩
            go_wp2
            go_ret
            rw [HF.out]
            exact ⟨rfl, belowN (below2 _ _ _) _⟩
end Go.Proofs.Ytfkegbipfekbdaa
/-
  A layout that comes in as an argument, opened: its numbers are ints of 64 bits, its slices read as lists. No statement about a Go function.
-/
namespace Go.Proofs.Ytfkegbipfekbdaa
open Go.ChangeShapes Go.WideShapes Go.ChangeAt Go.RowKit Go.Deep
set_option maxRecDepth 100000

section
variable {H : Type} {enc : TypeId × Value → H} {P : Program} {w : World} {base : Nat} {spare : Nat → Bool} {held : Bool}
/-- A struct by value, of whatever many fields of one cell each: field by field. -/
theorem open_fields {r : Reach} {b0 : Nat} {t : TypeId} {fs : Array Field} {v : Value} {d : DataW H} {p : List MemPlace} (hs : P.underlying t = some (.struct fs)) (hone : oneCellFields P fs = true) (hC : P.cellsOf t = fs.size)
    (hv : Value.okWide P w r b0 t v) (h : DataW.Trod enc P w base spare held t v d p) :
    ∃ cs : Array Value, v = .agg cs ∧ cs.size = fs.size ∧ ∀ (i : Nat) (f : Field), fs[i]? = some f → ∃ (u : Value) (y : DataW H × List MemPlace) (n : Nat), cs[i]? = some u ∧ DataW.trod enc P w base spare held n f.type [u] = some y := by
  obtain ⟨cs, rfl, hsz⟩ := okWide_struct hs hv
  obtain ⟨fuel, hf⟩ := h
  obtain ⟨xs, n, _, hx, hlen, hxl, hg⟩ := DataW.trod_struct hs hf
  have hsz' : cs.size = fs.size := hsz.trans hC
  refine ⟨cs, rfl, hsz', fun i f hi => ?_⟩
  obtain ⟨ho, hk⟩ := hone_of hone i f hi
  have hil : i < fs.size := (Array.getElem?_eq_some_iff.1 hi).1
  have h1 := hg i f hi
  rw [ho, hk] at h1
  have hc : (Value.agg cs).cells.toList = cs.toList := by simp [Value.cells]
  have hlt : i < (Value.agg cs).cells.toList.length := by rw [hc, Array.length_toList]; omega
  have hone' : ((Value.agg cs).cells.toList.drop i).take 1 = [(Value.agg cs).cells.toList[i]'hlt] := by
    rw [List.drop_eq_getElem_cons hlt]; rfl
  rw [hone'] at h1
  have hxs : xs[i]? = some (xs[i]'(by omega)) := List.getElem?_eq_getElem (by omega)
  refine ⟨_, _, n, ?_, h1.trans hxs⟩
  have : cs[i]? = some (cs[i]'(by omega)) := Array.getElem?_eq_getElem (by omega)
  rw [this]
  simp [Value.cells]
end


section
variable {H : Type} {enc : TypeId × Value → H} {w : World}
theorem int_field {n : Nat} {u : Value} {y : DataW H × List MemPlace} (h : DataW.trod enc Try.prog w 0 (fun _ => true) true n 3 [u] = some y) : ∃ a : Int, u = .int .i64 a ∧ Fit a := by
  obtain ⟨a, e, _, hw⟩ := DataW.trod_int Try.underlying3 h
  simp at e
  exact ⟨a, e, wf_i64 hw⟩
theorem ints_field {n : Nat} {u : Value} {y : DataW H × List MemPlace} (h : DataW.trod enc Try.prog w 0 (fun _ => true) true n 22 [u] = some y) : ∃ (a : Option Addr) (len cap : Nat) (xs : List Int), u = .slice a len cap ∧ len ≤ cap ∧ Ints w w.heap.size a len xs := by
  rcases open_ints Try.underlying22 Try.underlying3 (by kernel_rfl) h with ⟨hcs, _⟩ | ⟨x, l, c, zs, hcs, _, hl, hm, hz, _, hcell, hwz⟩
  · simp at hcs
    exact ⟨_, _, _, _, hcs, by omega, Ints.of_row (zs := []) (cap := 0) (.inl ⟨rfl, rfl, rfl, rfl⟩)⟩
  · simp at hcs
    exact ⟨_, _, _, _, hcs, hl, Ints.of_row (zs := zs) (cap := c) (.inr ⟨x, rfl, hl, hm, by simpa using hz, hcell, hwz⟩)⟩

/-- A layout that came in. -/
theorem open_conf {r : Reach} {b0 : Nat} {v : Value} {d : DataW H} {p : List MemPlace} (hv : Value.okWide Try.prog w r b0 24 v) (h : DataW.Trod enc Try.prog w 0 (fun _ => true) true 24 v d p) :
    ∃ c : Cf, v = (.agg #[.int .i64 c.size, .int .i64 c.pages, .slice c.ca c.cn c.cc, .slice c.ka c.kn c.kc, .int .i64 c.step, .int .i64 c.slots, .int .i64 c.gens, .int .i64 c.most]) ∧ c.Ok w w.heap.size ∧ c.cn ≤ c.cc ∧ c.kn ≤ c.kc := by
  obtain ⟨cs, rfl, hsz, hf⟩ := open_fields Try.underlying24 (by kernel_rfl) (by kernel_rfl) hv h
  obtain ⟨l⟩ := cs
  match l, hsz with
  | [v0, v1, v2, v3, v4, v5, v6, v7], _ =>
    obtain ⟨u0, _, n0, e0, t0⟩ := hf 0 _ rfl
    obtain ⟨u1, _, n1, e1, t1⟩ := hf 1 _ rfl
    obtain ⟨u2, _, n2, e2, t2⟩ := hf 2 _ rfl
    obtain ⟨u3, _, n3, e3, t3⟩ := hf 3 _ rfl
    obtain ⟨u4, _, n4, e4, t4⟩ := hf 4 _ rfl
    obtain ⟨u5, _, n5, e5, t5⟩ := hf 5 _ rfl
    obtain ⟨u6, _, n6, e6, t6⟩ := hf 6 _ rfl
    obtain ⟨u7, _, n7, e7, t7⟩ := hf 7 _ rfl
    simp at e0 e1 e2 e3 e4 e5 e6 e7
    subst e0 e1 e2 e3 e4 e5 e6 e7
    obtain ⟨a0, rfl, f0⟩ := int_field t0
    obtain ⟨a1, rfl, f1⟩ := int_field t1
    obtain ⟨ca, cn, cc, xs, rfl, hcc, i2⟩ := ints_field t2
    obtain ⟨ka, kn, kc, ks, rfl, hkc, i3⟩ := ints_field t3
    obtain ⟨a4, rfl, f4⟩ := int_field t4
    obtain ⟨a5, rfl, f5⟩ := int_field t5
    obtain ⟨a6, rfl, f6⟩ := int_field t6
    obtain ⟨a7, rfl, f7⟩ := int_field t7
    exact ⟨⟨a0, a1, ca, cn, cc, ka, kn, kc, a4, a5, a6, a7, xs, ks⟩, rfl, ⟨i2, i3, f0, f1, f4, f5, f6, f7⟩, hcc, hkc⟩
end
end Go.Proofs.Ytfkegbipfekbdaa
