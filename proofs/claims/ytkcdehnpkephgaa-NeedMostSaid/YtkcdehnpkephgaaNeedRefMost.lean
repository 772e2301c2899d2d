/-
  The document's own Most for package need (almeryref17.Most), met by a contract: the plain 'mostOut'; all memory that was there is as it was.
-/
import Derived.Test.YtkcdehnpkephgaaNeedRefPages
import Derived.Test.YtkcdehnpkephgaaNeedMost
namespace Go.Proofs.Ytkcdehnpkephgaa
open Go.ChangeShapes Go.WideShapes Go.ChangeAt Go.RowKit

set_option maxHeartbeats 2000000 in
theorem refMost_any (c : Cf) (a : Option Addr) (n k0 : Nat) (l : List Int) (am : Option Addr) (m km : Nat) (ms : List Bool) (w : World) (hc : c.Ok w w.heap.size) (h : MayC c) (hl : Ints w w.heap.size a n l) (hn : n ≤ 1000000) (hm : Bools w w.heap.size am m ms) :
    Calls Try.prog 13 #[(.agg #[.int .i64 c.size, .int .i64 c.pages, .slice c.ca c.cn c.cc, .slice c.ka c.kn c.kc, .int .i64 c.step, .int .i64 c.slots, .int .i64 c.gens, .int .i64 c.most]), .slice a n k0, .slice am m km] w (MostEnd c l ms w) := by
  have hlen := hc.classes.len
  have hfew := h.few
  have hmax := hm.max
  have hml := hm.len
  have hkl := hc.keep.len
  have hk2 := h.keep.1
  have HP := Lib.hid (refPages_any c a n k0 l (w.alloc (.cells #[.int .i64 c.size, .int .i64 c.pages, .slice c.ca c.cn c.cc, .slice c.ka c.kn c.kc, .int .i64 c.step, .int .i64 c.slots, .int .i64 c.gens, .int .i64 c.most] 24)) (hc.on (below1 w (.cells #[.int .i64 c.size, .int .i64 c.pages, .slice c.ca c.cn c.cc, .slice c.ka c.kn c.kc, .int .i64 c.step, .int .i64 c.slots, .int .i64 c.gens, .int .i64 c.most] 24))) h (hl.on (below1 w (.cells #[.int .i64 c.size, .int .i64 c.pages, .slice c.ca c.cn c.cc, .slice c.ka c.kn c.kc, .int .i64 c.step, .int .i64 c.slots, .int .i64 c.gens, .int .i64 c.most] 24))) hn)
  have b0 := Lib.hid (below1 w (.cells #[.int .i64 c.size, .int .i64 c.pages, .slice c.ca c.cn c.cc, .slice c.ka c.kn c.kc, .int .i64 c.step, .int .i64 c.slots, .int .i64 c.gens, .int .i64 c.most] 24))
  have B0 := Boxed.new w c
  have ⟨x0, x1, x2, x3, x4, x5, x6, x7, x8⟩ := B0
  unfold PagesEnd at HP
  cases ha : l.all (isT c) with
  | false =>
    have e : pagesOut c l = (0, 3) := if_neg (by rw [ha]; simp)
    rw [e] at HP
    have e2 : mostOut c l ms = (0, 3) := if_neg (by rw [ha]; simp)
    have HF := Lib.hid e2
    clear e e2 ha hlen hfew hkl hk2 hml hc hl hm h
    go_enter Try.func13, Try.ntmps13
    go_wp2_with fail
    refine HP.out.mono ?_
    rintro e w2 ⟨rfl, f2⟩
    go_wp2
    go_ret2
    unfold MostEnd
    rw [HF.out]
    exact ⟨rfl, belowT b0.out f2⟩
  | true =>
    rw [pages_on ha] at HP
    have pn := pagesN_in h (by have := hl.len; omega) ha
    by_cases hmc : m = c.cn
    · have d1 : ((m : Int) != (c.cn : Int)) = false := by simp [hmc]
      have d1' : (m != c.cn) = false := by simp [hmc]
      have e2 : mostOut c l ms = (pagesN c l + sumTo (moreOf c ms) c.cn, 0) := by
        unfold mostOut
        rw [if_pos ha, if_pos (by omega)]
      have HF := Lib.hid e2
      have S1 := sumTo_in (f := moreOf c ms) (n := c.cn) (m := 1025) (by omega) (fun k _ => by
        have := keepAt_in h k
        have := moveAt_in ms k
        show 0 ≤ keepAt c k + moveAt ms k ∧ keepAt c k + moveAt ms k ≤ 1025
        omega)
      have EKN : Hid (c.kn = c.cn) := Lib.hid (by omega)
      have HKo := Lib.hid (hc.keep.on (below1 w (.cells #[.int .i64 c.size, .int .i64 c.pages, .slice c.ca c.cn c.cc, .slice c.ka c.kn c.kc, .int .i64 c.step, .int .i64 c.slots, .int .i64 c.gens, .int .i64 c.most] 24)))
      have HMo := Lib.hid (hm.on (below1 w (.cells #[.int .i64 c.size, .int .i64 c.pages, .slice c.ca c.cn c.cc, .slice c.ka c.kn c.kc, .int .i64 c.step, .int .i64 c.slots, .int .i64 c.gens, .int .i64 c.most] 24)))
      have HKf := Lib.hid (h.keep.2)
      have hcn : c.cn ≤ 16 := by omega
      subst hmc
      clear e2 ha hlen hfew hkl hk2 hml hc hl hm h
      generalize pagesN c l = N at *
      go_enter Try.func13, Try.ntmps13
      go_wp2_with fail
      refine HP.out.mono ?_
      rintro e w2 ⟨rfl, f2⟩
      have B2 := B0.on f2
      have K2 := HKo.out.on f2
      have M2 := HMo.out.on f2
      have b2 := Lib.hid (belowT b0.out f2)
      clear x0 x1 x2 x3 x4 x5 x6 x7 f2 b0 HKo HMo HP B0
      have ⟨x0, x1, x2, x3, x4, x5, x6, x7, _⟩ := B2
      go_wp2
      go_loopw [8, 10] (fun t i wr => wr = w2 ∧ ∃ k : Nat, k ≤ c.cn ∧ i = .int .i64 (k : Int) ∧ t = .int .i64 (N + sumTo (moreOf c ms) k)) (fun _ i _ => c.cn - (intOf i).toNat)
      case atStart => exact ⟨rfl, 0, Nat.zero_le _, rfl, by simp [sumTo]⟩
      case round =>
        obtain ⟨rfl, k, hk, rfl, rfl⟩ := hrel
        by_cases hlk : k < c.cn
        · have dk : decide ((k : Int) < (c.cn : Int)) = true := decide_eq_true (by omega)
          have hki : (k : Int) < (c.cn : Int) := by omega
          have hkk : (k : Int) < (c.kn : Int) := by rw [EKN.out]; exact hki
          obtain ⟨b, o, hka, _, hcl⟩ := K2.head (by rw [EKN.out]; omega)
          obtain ⟨s, hs, _, _⟩ := K2.at_ (k := k) (by rw [EKN.out]; exact hlk)
          have hcell := hcl k s hs
          obtain ⟨b', o', rfl, _, hcl'⟩ := M2.head (by omega)
          obtain ⟨y, hy⟩ := M2.at_ hlk
          have hcell' := hcl' k y hy
          have hsb := HKf.out k s hs
          rw [hka] at x3
          have HKA := Lib.hid hka
          have es : sumTo (moreOf c ms) (k + 1) = sumTo (moreOf c ms) k + (s + if y = true then 1 else 0) := by
            show sumTo (moreOf c ms) k + moreOf c ms k = _
            unfold moreOf
            rw [hs, hy]
            rfl
          have b1 := S1 k (by omega)
          have HX := Lib.hid es
          obtain ⟨t, et⟩ : ∃ t, t = sumTo (moreOf c ms) k := ⟨_, rfl⟩
          rw [← et] at HX b1 ⊢
          clear es et hka hs hy hcl hcl'
          cases y with
          | false =>
            go_wp2
            go_roundw
            case rel => exact ⟨trivial, k + 1, by omega, by go_num, by rw [HX.out]; simp; omega⟩
            case measure => simp [intOf]; omega
          | true =>
            go_wp2
            go_roundw
            case rel => exact ⟨trivial, k + 1, by omega, by go_num, by rw [HX.out]; simp; omega⟩
            case measure => simp [intOf]; omega
        · obtain rfl : k = c.cn := by omega
          have dk : decide ((c.cn : Int) < (c.cn : Int)) = false := by simp
          go_wp2
          go_ret2
          unfold MostEnd
          rw [HF.out]
          exact ⟨rfl, b2.out⟩
    · have d1 : ((m : Int) != (c.cn : Int)) = true := by simp; omega
      have d1' : (m != c.cn) = true := by simp; omega
      have e2 : mostOut c l ms = (0, 1) := by
        unfold mostOut
        rw [if_pos ha, if_neg (by omega)]
      have HF := Lib.hid e2
      clear e2 ha hlen hfew hkl hk2 hml hc hl hm h hmc
      generalize pagesN c l = N at *
      go_enter Try.func13, Try.ntmps13
      go_wp2_with fail
      refine HP.out.mono ?_
      rintro e w2 ⟨rfl, f2⟩
      have B2 := B0.on f2
      have b2 := Lib.hid (belowT b0.out f2)
      clear x0 x1 x2 x3 x4 x5 x6 x7 f2
      have ⟨x0, x1, x2, x3, x4, x5, x6, x7, _⟩ := B2
      go_wp2
      go_ret2
      unfold MostEnd
      rw [HF.out]
      exact ⟨rfl, b2.out⟩
end Go.Proofs.Ytkcdehnpkephgaa
