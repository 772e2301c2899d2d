/-
  The document's own Pages for package need (almeryref17.Pages), met by a contract: the plain 'pagesOut'; all memory that was there is as it was.
-/
import Derived.Test.YtkcdehnpkephgaaNeedRefLive
import Derived.Test.YtkcdehnpkephgaaConfRef
import Derived.Test.YtkcdehnpkephgaaNeedPages
namespace Go.Proofs.Ytkcdehnpkephgaa
open Go.ChangeShapes Go.WideShapes Go.ChangeAt Go.RowKit

theorem bigN_next {c : Cf} {l : List Int} {i : Nat} {s : Int} (hs : l[i]? = some s) : bigN c (l.take (i + 1)) = bigN c (l.take i) + bigOf c s := by
  rw [List.take_add_one, hs]
  show bigN c (l.take i ++ [s]) = _
  rw [bigN_app]
  simp [bigN]

/-- Pages of a class's things. -/
def needAt (c : Cf) (l : List Int) (k : Nat) : Int := many ((liveN c l (k : Int) : Nat) : Int) (blocks c (k : Int))

set_option maxRecDepth 20000 in
set_option maxHeartbeats 4000000 in
theorem refPages_any (c : Cf) (a : Option Addr) (n k0 : Nat) (l : List Int) (w : World) (hc : c.Ok w w.heap.size) (h : MayC c) (hl : Ints w w.heap.size a n l) (hn : n ≤ 1000000) :
    Calls Try.prog 11 #[(.agg #[.int .i64 c.size, .int .i64 c.pages, .slice c.ca c.cn c.cc, .slice c.ka c.kn c.kc, .int .i64 c.step, .int .i64 c.slots, .int .i64 c.gens, .int .i64 c.most]), .slice a n k0] w (PagesEnd c l w) := by
  have HN := Lib.hid hl.len
  have HC := Lib.hid hc.classes.len
  have HM := Lib.hid h
  have hcn : c.cn ≤ 16 := by have := h.few; have := hc.classes.len; omega
  have B0 := Boxed.new w c
  have O0 := Lib.hid (hc.on (below1 w (.cells #[.int .i64 c.size, .int .i64 c.pages, .slice c.ca c.cn c.cc, .slice c.ka c.kn c.kc, .int .i64 c.step, .int .i64 c.slots, .int .i64 c.gens, .int .i64 c.most] 24)))
  have L0 := Lib.hid (hl.on (below1 w (.cells #[.int .i64 c.size, .int .i64 c.pages, .slice c.ca c.cn c.cc, .slice c.ka c.kn c.kc, .int .i64 c.step, .int .i64 c.slots, .int .i64 c.gens, .int .i64 c.most] 24)))
  have b0 := Lib.hid (below1 w (.cells #[.int .i64 c.size, .int .i64 c.pages, .slice c.ca c.cn c.cc, .slice c.ka c.kn c.kc, .int .i64 c.step, .int .i64 c.slots, .int .i64 c.gens, .int .i64 c.most] 24))
  clear hc hl h
  go_enter Try.func11, Try.ntmps11
  go_wp2
  generalize w.alloc (.cells #[.int .i64 c.size, .int .i64 c.pages, .slice c.ca c.cn c.cc, .slice c.ka c.kn c.kc, .int .i64 c.step, .int .i64 c.slots, .int .i64 c.gens, .int .i64 c.most] 24) = w1 at *
  go_loopw [6, 7] (fun t i wr => ∃ j : Nat, j ≤ n ∧ i = .int .i64 (j : Int) ∧ t = .int .i64 (bigN c (l.take j)) ∧ (l.take j).all (isT c) = true ∧ Hid (Below w1.heap.size w1 wr)) (fun _ i _ => n - (intOf i).toNat)
  case atStart => exact ⟨0, Nat.zero_le _, rfl, rfl, rfl, Lib.hid (Below.refl _ _)⟩
  case round =>
    obtain ⟨j, hj, rfl, rfl, ha, bw⟩ := hrel
    by_cases hlt : j < n
    · have dlt : decide ((j : Int) < (n : Int)) = true := decide_eq_true (by omega)
      have Lw := L0.out.below bw.out
      obtain ⟨s, hs, s1, s2⟩ := Lw.at_ hlt
      obtain ⟨b, o, rfl, hb, hcl⟩ := Lw.head (by omega)
      have hcell := hcl j s hs
      have HX := Lib.hid (bigN_next (c := c) hs)
      have HS := Lib.hid hs
      have HA := Lib.hid ha
      have hv := bigN_bounds HM.out (l.take j) ha
      have hv2 : (l.take j).length ≤ 1000000 := by rw [List.length_take]; omega
      have hvv : 0 ≤ bigN c (l.take j) ∧ bigN c (l.take j) ≤ 4194305000000 := by omega
      obtain ⟨v, ev⟩ : ∃ v, v = bigN c (l.take j) := ⟨_, rfl⟩
      rw [← ev] at HX hvv ⊢
      clear hv hv2 ev hcl hs Lw ha
      have Bw := B0.on bw.out
      have ⟨x0, x1, x2, x3, x4, x5, x6, x7, x8⟩ := Bw
      have hbw : b < wr.heap.size := Nat.lt_of_lt_of_le hb bw.out.size
      have hji : (j : Int) < (n : Int) := by omega
      have HI := Lib.hid (fun v => refIs_any c s v)
      have HO := Lib.hid (fun v (hv : Below w1.heap.size w1 v) => refSmall_any c v (O0.out.on hv))
      cases hT : isT c s with
      | false =>
        have HF := Lib.hid (pages_off (c := c) HS.out (fun q => by rw [isT_true.2 q] at hT; cases hT))
        rw [hT] at HI
        clear hT
        go_wp2_with fail
        go_region_held3 (fun w' => w'.cell? ⟨b, o + j, none⟩ = some (.int .i64 s) ∧ w'.cell? ⟨w.heap.size, 0, none⟩ = some (.int .i64 c.size) ∧ w'.cell? ⟨w.heap.size, 1, none⟩ = some (.int .i64 c.pages) ∧
        w'.cell? ⟨w.heap.size, 2, none⟩ = some (.slice c.ca c.cn c.cc) ∧ w'.cell? ⟨w.heap.size, 3, none⟩ = some (.slice c.ka c.kn c.kc) ∧
        w'.cell? ⟨w.heap.size, 4, none⟩ = some (.int .i64 c.step) ∧ w'.cell? ⟨w.heap.size, 5, none⟩ = some (.int .i64 c.slots) ∧
        w'.cell? ⟨w.heap.size, 6, none⟩ = some (.int .i64 c.gens) ∧ w'.cell? ⟨w.heap.size, 7, none⟩ = some (.int .i64 c.most))
          (first | exact ⟨hcell, x0, x1, x2, x3, x4, x5, x6, x7⟩ | exact keep9c f5 x8 hbw (by assumption) | go_keep)
          (first | (go_at_call 16; refine (HI.out _).mono ?_; rintro e w5 ⟨rfl, f5⟩))
        have f6 : Hid (Below w.heap.size w w5) := Lib.hid (b0.out.trans ((bw.out.trans (Below.mono (show Below wr.heap.size wr w5 from ⟨f5.os, f5.tape, f5.output, f5.size, f5.block⟩) bw.out.size)).mono b0.out.size))
        clear f5
        go_wp2
        go_ret2
        unfold PagesEnd
        rw [HF.out]
        exact ⟨rfl, f6.out⟩
      | true =>
        have HAN := Lib.hid (all_next HA.out HS.out (isT_true.1 hT))
        rw [hT] at HI
        have hbo := bigOf_bounds HM.out (isT_true.1 hT).2
        clear hT
        go_wp2_with fail
        go_region_held3 (fun w' => w'.cell? ⟨b, o + j, none⟩ = some (.int .i64 s) ∧ w'.cell? ⟨w.heap.size, 0, none⟩ = some (.int .i64 c.size) ∧ w'.cell? ⟨w.heap.size, 1, none⟩ = some (.int .i64 c.pages) ∧
        w'.cell? ⟨w.heap.size, 2, none⟩ = some (.slice c.ca c.cn c.cc) ∧ w'.cell? ⟨w.heap.size, 3, none⟩ = some (.slice c.ka c.kn c.kc) ∧
        w'.cell? ⟨w.heap.size, 4, none⟩ = some (.int .i64 c.step) ∧ w'.cell? ⟨w.heap.size, 5, none⟩ = some (.int .i64 c.slots) ∧
        w'.cell? ⟨w.heap.size, 6, none⟩ = some (.int .i64 c.gens) ∧ w'.cell? ⟨w.heap.size, 7, none⟩ = some (.int .i64 c.most))
          (first | exact ⟨hcell, x0, x1, x2, x3, x4, x5, x6, x7⟩ | exact keep9c f5 x8 hbw (by assumption) | go_keep)
          (first | (go_at_call 16; refine (HI.out _).mono ?_; rintro e w5 ⟨rfl, f5⟩))
        have f6 : Hid (Below w1.heap.size w1 w5) := Lib.hid (bw.out.trans (Below.mono (show Below wr.heap.size wr w5 from ⟨f5.os, f5.tape, f5.output, f5.size, f5.block⟩) bw.out.size))
        have hcell5 := (f5.cell (p := ⟨b, o + j, none⟩) hbw).trans hcell
        have B5 := B0.on f6.out
        have hbw5 : b < w5.heap.size := Nat.lt_of_lt_of_le hb f6.out.size
        clear f5 x0 x1 x2 x3 x4 x5 x6 x7 x8 hcell Bw hbw bw HI
        have ⟨x0, x1, x2, x3, x4, x5, x6, x7, x8⟩ := B5
        have hcell := hcell5
        clear hcell5
        go_wp2_with fail
        go_region_held3 (fun w' => w'.cell? ⟨b, o + j, none⟩ = some (.int .i64 s) ∧ w'.cell? ⟨w.heap.size, 0, none⟩ = some (.int .i64 c.size) ∧ w'.cell? ⟨w.heap.size, 1, none⟩ = some (.int .i64 c.pages) ∧
        w'.cell? ⟨w.heap.size, 2, none⟩ = some (.slice c.ca c.cn c.cc) ∧ w'.cell? ⟨w.heap.size, 3, none⟩ = some (.slice c.ka c.kn c.kc) ∧
        w'.cell? ⟨w.heap.size, 4, none⟩ = some (.int .i64 c.step) ∧ w'.cell? ⟨w.heap.size, 5, none⟩ = some (.int .i64 c.slots) ∧
        w'.cell? ⟨w.heap.size, 6, none⟩ = some (.int .i64 c.gens) ∧ w'.cell? ⟨w.heap.size, 7, none⟩ = some (.int .i64 c.most))
          (first | exact ⟨hcell, x0, x1, x2, x3, x4, x5, x6, x7⟩ | exact keep9c f7 x8 hbw5 (by assumption) | go_keep)
          (first | (go_at_call 17; refine (HO.out _ (belowD f6.out)).mono ?_; rintro e w7 ⟨rfl, f7⟩))
        have f8 : Hid (Below w1.heap.size w1 w7) := Lib.hid (f6.out.trans (Below.mono (show Below w5.heap.size w5 w7 from ⟨f7.os, f7.tape, f7.output, f7.size, f7.block⟩) f6.out.size))
        have hcell7 := (f7.cell (p := ⟨b, o + j, none⟩) hbw5).trans hcell
        have B7 := B0.on f8.out
        clear f7 x0 x1 x2 x3 x4 x5 x6 x7 x8 hcell hbw5 f6 HO B5
        have ⟨x0, x1, x2, x3, x4, x5, x6, x7, x8⟩ := B7
        have hcell := hcell7
        clear hcell7
        by_cases hL : small c < s
        · have d1 : decide (small c < s) = true := decide_eq_true hL
          have eb : bigOf c s = allOf s c.size := if_pos hL
          rw [eb] at HX hbo
          have hw : IntKind.i64.wrap (v + allOf s c.size) = v + allOf s c.size := IntWalk.i64_in _ (by omega)
          have HR := Lib.hid (fun v => refAll_any s c.size v s2)
          generalize allOf s c.size = q at *
          clear eb
          go_wp2_with fail
          go_region_held3 (fun w' => w'.cell? ⟨b, o + j, none⟩ = some (.int .i64 s) ∧ w'.cell? ⟨w.heap.size, 0, none⟩ = some (.int .i64 c.size) ∧ w'.cell? ⟨w.heap.size, 1, none⟩ = some (.int .i64 c.pages) ∧
        w'.cell? ⟨w.heap.size, 2, none⟩ = some (.slice c.ca c.cn c.cc) ∧ w'.cell? ⟨w.heap.size, 3, none⟩ = some (.slice c.ka c.kn c.kc) ∧
        w'.cell? ⟨w.heap.size, 4, none⟩ = some (.int .i64 c.step) ∧ w'.cell? ⟨w.heap.size, 5, none⟩ = some (.int .i64 c.slots) ∧
        w'.cell? ⟨w.heap.size, 6, none⟩ = some (.int .i64 c.gens) ∧ w'.cell? ⟨w.heap.size, 7, none⟩ = some (.int .i64 c.most))
            (first | exact ⟨hcell, x0, x1, x2, x3, x4, x5, x6, x7⟩ | assumption | go_keep)
            (first | (go_at_call 18; refine (HR.out _).mono ?_; rintro e w9 ⟨rfl, rfl⟩))
          go_wp2
          go_roundw
          case rel => exact ⟨j + 1, by omega, by go_num, by rw [HX.out], HAN.out, Lib.hid (belowD f8.out)⟩
          case measure => simp [intOf]; omega
        · have d1 : decide (small c < s) = false := decide_eq_false hL
          have eb : bigOf c s = 0 := if_neg hL
          rw [eb] at HX
          clear eb
          go_wp2
          go_roundw
          case rel => exact ⟨j + 1, by omega, by go_num, by rw [HX.out]; simp, HAN.out, f8⟩
          case measure => simp [intOf]; omega
    · obtain rfl : j = n := by omega
      have dlt : decide ((j : Int) < (j : Int)) = false := by simp
      have ej : l.take j = l := List.take_of_length_le (by have := HN.out; omega)
      rw [ej] at ha ⊢
      have HA := Lib.hid ha
      have HF := Lib.hid (pages_on ha)
      clear ha ej
      have S1 := sumTo_in (f := needAt c l) (n := c.cn) (m := 1000000) (by omega) (fun k _ => by
        have e1 := many_any_bounds (x := ((liveN c l (k : Int) : Nat) : Int)) (p := blocks c (k : Int)) (by omega)
        have e2 := liveN_len (c := c) (l := l) (k := (k : Int))
        have := HN.out
        unfold needAt
        omega)
      have bb := bigN_bounds HM.out l HA.out
      have bb2 : 0 ≤ bigN c l ∧ bigN c l ≤ 4194305000000 := by have := HN.out; omega
      have eS : sumTo (needAt c l) c.cn = smallN c l := by rw [← HC.out]; rfl
      have HE := Lib.hid eS
      clear bb eS
      go_wp2
      go_loopw [6, 8] (fun t i wq => ∃ k : Nat, k ≤ c.cn ∧ i = .int .i64 (k : Int) ∧ t = .int .i64 (bigN c l + sumTo (needAt c l) k) ∧ Hid (Below w1.heap.size w1 wq)) (fun _ i _ => c.cn - (intOf i).toNat)
      case atStart => exact ⟨0, Nat.zero_le _, rfl, by simp [sumTo], bw⟩
      case round =>
        obtain ⟨k, hk, rfl, rfl, bq⟩ := hrel
        have Bq := B0.on bq.out
        have ⟨x0, x1, x2, x3, x4, x5, x6, x7, x8⟩ := Bq
        by_cases hlk : k < c.cn
        · have dk : decide ((k : Int) < (c.cn : Int)) = true := decide_eq_true (by omega)
          have hki : (k : Int) < (c.cn : Int) := by omega
          have b1 := S1 k (by omega)
          have b2 := S1 (k + 1) (by omega)
          have es : sumTo (needAt c l) (k + 1) = sumTo (needAt c l) k + many ((liveN c l (k : Int) : Nat) : Int) (blocks c (k : Int)) := rfl
          rw [es] at b2
          have HSx := Lib.hid es
          have HOk := Lib.hid (fun v (hv : Below w1.heap.size w1 v) => refLive_any c a j k0 l (k : Int) v (O0.out.on hv) (L0.out.on hv) hn)
          have HBl := Lib.hid (fun v (hv : Below w1.heap.size w1 v) => refBlocks_any c (k : Int) v (O0.out.on hv) (Fit.nat (by omega)))
          have hll := liveN_len (c := c) (l := l) (k := (k : Int))
          have hlx : ((liveN c l (k : Int) : Nat) : Int) ≤ 1000000 := by have := HN.out; omega
          have HMn := Lib.hid (fun v => refMany_any ((liveN c l (k : Int) : Nat) : Int) (blocks c (k : Int)) v (by omega))
          obtain ⟨x, ex⟩ : ∃ x, x = ((liveN c l (k : Int) : Nat) : Int) := ⟨_, rfl⟩
          rw [← ex] at HSx HOk HMn b2 hlx
          clear ex es hll
          generalize blocks c (k : Int) = p at *
          generalize many x p = q at *
          obtain ⟨t, et⟩ : ∃ t, t = sumTo (needAt c l) k := ⟨_, rfl⟩
          rw [← et] at HSx b1 b2 ⊢
          clear et
          have hw : IntKind.i64.wrap (bigN c l + t + q) = bigN c l + t + q := IntWalk.i64_in _ (by omega)
          go_wp2_with fail
          go_region_held3 (fun w' => w'.cell? ⟨w.heap.size, 0, none⟩ = some (.int .i64 c.size) ∧ w'.cell? ⟨w.heap.size, 1, none⟩ = some (.int .i64 c.pages) ∧
          w'.cell? ⟨w.heap.size, 2, none⟩ = some (.slice c.ca c.cn c.cc) ∧ w'.cell? ⟨w.heap.size, 3, none⟩ = some (.slice c.ka c.kn c.kc) ∧
          w'.cell? ⟨w.heap.size, 4, none⟩ = some (.int .i64 c.step) ∧ w'.cell? ⟨w.heap.size, 5, none⟩ = some (.int .i64 c.slots) ∧
          w'.cell? ⟨w.heap.size, 6, none⟩ = some (.int .i64 c.gens) ∧ w'.cell? ⟨w.heap.size, 7, none⟩ = some (.int .i64 c.most))
            (first | exact ⟨x0, x1, x2, x3, x4, x5, x6, x7⟩ | exact keep8 f5 x8 (by assumption) | exact keep8 f6 (Nat.lt_of_lt_of_le x8 f5.size) (by assumption) | assumption | go_keep)
            (first
              | (go_at_call 15; refine (HOk.out _ (belowD bq.out)).mono ?_; rintro e w5 ⟨rfl, f5⟩)
              | (go_at_call 19; refine (HBl.out _ ((belowD bq.out).trans (Below.mono f5 bq.out.size))).mono ?_; rintro e w6 ⟨rfl, f6⟩)
              | (go_at_call 31; refine (HMn.out _).mono ?_; rintro e w7 ⟨rfl, rfl⟩))
          have b7 : Hid (Below w1.heap.size w1 w6) := Lib.hid (bq.out.trans ((Below.mono (show Below wr.heap.size wr w5 from ⟨f5.os, f5.tape, f5.output, f5.size, f5.block⟩) bq.out.size).trans (Below.mono f6 (Nat.le_trans bq.out.size f5.size))))
          clear f5 f6
          go_wp2
          go_roundw
          case rel => exact ⟨k + 1, by omega, by go_num, by rw [HSx.out, Int.add_assoc], b7⟩
          case measure => simp [intOf]; omega
        · obtain rfl : k = c.cn := by omega
          have dk : decide ((c.cn : Int) < (c.cn : Int)) = false := by simp
          rw [HE.out]
          have ep : bigN c l + smallN c l = pagesN c l := rfl
          rw [ep]
          go_wp2
          go_ret2
          unfold PagesEnd
          rw [HF.out]
          exact ⟨rfl, b0.out.trans (bq.out.mono b0.out.size)⟩
end Go.Proofs.Ytkcdehnpkephgaa
