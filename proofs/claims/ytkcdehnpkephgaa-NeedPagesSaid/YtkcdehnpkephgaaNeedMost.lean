/-
  Most and Live of package need, and Most's closures, met by contracts: of a layout that may be, the plain 'mostOut' and 'liveN'; all memory that was there is as it was.
-/
import Derived.Test.YtkcdehnpkephgaaNeedPages
import Derived.Test.YtkcdehnpkephgaaNeedSumB
namespace Go.Proofs.Ytkcdehnpkephgaa
open Go.ChangeShapes Go.WideShapes Go.ChangeAt Go.RowKit

theorem needLive_any (c : Cf) (a : Option Addr) (n k0 : Nat) (l : List Int) (k : Int) (w : World) (hc : c.Ok w w.heap.size) (h : MayC c) (hl : Ints w w.heap.size a n l) (hn : n ≤ 1000000) :
    Calls Try.prog 14 #[(.agg #[.int .i64 c.size, .int .i64 c.pages, .slice c.ca c.cn c.cc, .slice c.ka c.kn c.kc, .int .i64 c.step, .int .i64 c.slots, .int .i64 c.gens, .int .i64 c.most]), .slice a n k0, .int .i64 k] w (IB (if k < c.xs.length then ((liveN c l k : Nat) : Int) else 0) w) := by
  have hlen := hc.classes.len
  have hfew := h.few
  have HL := Lib.hid (lives_any c a n k0 l (w.alloc (.cells #[.int .i64 c.size, .int .i64 c.pages, .slice c.ca c.cn c.cc, .slice c.ka c.kn c.kc, .int .i64 c.step, .int .i64 c.slots, .int .i64 c.gens, .int .i64 c.most] 24)) (hc.on (below1 w (.cells #[.int .i64 c.size, .int .i64 c.pages, .slice c.ca c.cn c.cc, .slice c.ka c.kn c.kc, .int .i64 c.step, .int .i64 c.slots, .int .i64 c.gens, .int .i64 c.most] 24))) h (hl.on (below1 w (.cells #[.int .i64 c.size, .int .i64 c.pages, .slice c.ca c.cn c.cc, .slice c.ka c.kn c.kc, .int .i64 c.step, .int .i64 c.slots, .int .i64 c.gens, .int .i64 c.most] 24))) hn)
  have b0 := Lib.hid (below1 w (.cells #[.int .i64 c.size, .int .i64 c.pages, .slice c.ca c.cn c.cc, .slice c.ka c.kn c.kc, .int .i64 c.step, .int .i64 c.slots, .int .i64 c.gens, .int .i64 c.most] 24))
  by_cases h0 : k < 0
  · have e : (if k < c.xs.length then ((liveN c l k : Nat) : Int) else 0) = 0 := by rw [liveN_neg h0]; simp
    rw [e]
    have d0 : decide (k < 0) = true := decide_eq_true h0
    have ⟨x0, x1, x2, x3, x4, x5, x6, x7, x8⟩ := Boxed.new w c
    clear hlen hfew hl h hc e
    go_enter Try.func14, Try.ntmps14
    go_wp2_with fail
    refine HL.out.mono ?_
    rintro e w2 ⟨g, rfl, R2, g2, f2⟩
    go_wp2
    go_ret
    exact ⟨rfl, belowT b0.out f2⟩
  · have d0 : decide (k < 0) = false := decide_eq_false h0
    by_cases h1 : k < c.xs.length
    · rw [if_pos h1]
      obtain ⟨j, rfl⟩ := Int.eq_ofNat_of_zero_le (show 0 ≤ k by omega)
      have hj : j < c.xs.length := by omega
      have hji : (j : Int) < (c.cn : Int) := by omega
      have d1 : decide ((c.cn : Int) ≤ (j : Int)) = false := decide_eq_false (by omega)
      have d2 : decide (c.cn ≤ j) = false := decide_eq_false (by omega)
      have ⟨x0, x1, x2, x3, x4, x5, x6, x7, x8⟩ := Boxed.new w c
      clear hlen hfew hl h hc h1
      go_enter Try.func14, Try.ntmps14
      go_wp2_with fail
      refine HL.out.mono ?_
      rintro e w2 ⟨g, rfl, R2, g2, f2⟩
      have hcnt := R2.cell j _ (livesL_at c l hj)
      go_wp2
      go_ret
      exact ⟨rfl, belowT b0.out f2⟩
    · rw [if_neg h1]
      have d1 : decide ((c.cn : Int) ≤ k) = true := decide_eq_true (by omega)
      have ⟨x0, x1, x2, x3, x4, x5, x6, x7, x8⟩ := Boxed.new w c
      clear hlen hfew hl h hc h1
      go_enter Try.func14, Try.ntmps14
      go_wp2_with fail
      refine HL.out.mono ?_
      rintro e w2 ⟨g, rfl, R2, g2, f2⟩
      go_wp2
      go_ret
      exact ⟨rfl, belowT b0.out f2⟩

theorem keepOf_any (k x : Int) (w : World) : Calls Try.prog 32 #[.int .i64 k, .int .i64 x] w (IB x w) := by
  go_enter Try.func32, Try.ntmps32
  go_wp2
  go_ret
  exact ⟨rfl, Below.refl _ _⟩
theorem movesOf_any (k : Int) (x : Bool) (w : World) : Calls Try.prog 34 #[.int .i64 k, .bool x] w (IB (if x = true then 1 else 0) w) := by
  cases x <;>
  · go_enter Try.func34, Try.ntmps34
    go_wp2
    go_ret
    exact ⟨rfl, Below.refl _ _⟩

/-- How Most ends. -/
def MostEnd (c : Cf) (l : List Int) (ms : List Bool) (w : World) (e : Ending) (w' : World) : Prop :=
  e = .returned (.tuple #[.int .i64 (mostOut c l ms).1, .int .i64 (mostOut c l ms).2]) ∧ Below w.heap.size w w'
def keepAt (c : Cf) (k : Nat) : Int := (c.ks[k]?).getD 0
def moveAt (ms : List Bool) (k : Nat) : Int := if (ms[k]?).getD false = true then 1 else 0
theorem tells_keep (c : Cf) (w : World) : TellsAt 32 #[] (keepAt c) c.ks w := by
  intro k x v hx _
  have e : keepAt c k = x := by unfold keepAt; rw [hx]; rfl
  rw [e]
  exact keepOf_any (k : Int) x v
theorem tells_move (ms : List Bool) (w : World) : TellsAtB 34 #[] (moveAt ms) ms w := by
  intro k x v hx _
  have e : moveAt ms k = if x = true then 1 else 0 := by unfold moveAt; rw [hx]; rfl
  rw [e]
  exact movesOf_any (k : Int) x v
theorem keepAt_in {c : Cf} (h : MayC c) (k : Nat) : 0 ≤ keepAt c k ∧ keepAt c k ≤ 1024 := by
  unfold keepAt
  cases e : c.ks[k]? with
  | none => simp
  | some s => exact h.keep.2 k s e
theorem moveAt_in (ms : List Bool) (k : Nat) : 0 ≤ moveAt ms k ∧ moveAt ms k ≤ 1 := by unfold moveAt; split <;> omega
theorem most_sum (c : Cf) (ms : List Bool) (n : Nat) : sumTo (moreOf c ms) n = sumTo (keepAt c) n + sumTo (moveAt ms) n := sumTo_add (f := keepAt c) (g := moveAt ms)
theorem pagesN_in {c : Cf} {l : List Int} (h : MayC c) (hl : l.length ≤ 1000000) (ha : l.all (isT c) = true) : 0 ≤ pagesN c l ∧ pagesN c l ≤ 5000000000000 := by
  obtain ⟨p1, p2⟩ := smallN_bounds h l
  obtain ⟨p3, p4⟩ := bigN_bounds h l ha
  unfold pagesN
  omega

set_option maxHeartbeats 2000000 in
theorem needMost_any (c : Cf) (a : Option Addr) (n k0 : Nat) (l : List Int) (am : Option Addr) (m km : Nat) (ms : List Bool) (w : World) (hc : c.Ok w w.heap.size) (h : MayC c) (hl : Ints w w.heap.size a n l) (hn : n ≤ 1000000) (hm : Bools w w.heap.size am m ms) :
    Calls Try.prog 12 #[(.agg #[.int .i64 c.size, .int .i64 c.pages, .slice c.ca c.cn c.cc, .slice c.ka c.kn c.kc, .int .i64 c.step, .int .i64 c.slots, .int .i64 c.gens, .int .i64 c.most]), .slice a n k0, .slice am m km] w (MostEnd c l ms w) := by
  have hlen := hc.classes.len
  have hfew := h.few
  have hmax := hm.max
  have hml := hm.len
  have hkl := hc.keep.len
  have hk2 := h.keep.1
  have HP := Lib.hid (needPages_any c a n k0 l (w.alloc (.cells #[.int .i64 c.size, .int .i64 c.pages, .slice c.ca c.cn c.cc, .slice c.ka c.kn c.kc, .int .i64 c.step, .int .i64 c.slots, .int .i64 c.gens, .int .i64 c.most] 24)) (hc.on (below1 w (.cells #[.int .i64 c.size, .int .i64 c.pages, .slice c.ca c.cn c.cc, .slice c.ka c.kn c.kc, .int .i64 c.step, .int .i64 c.slots, .int .i64 c.gens, .int .i64 c.most] 24))) h (hl.on (below1 w (.cells #[.int .i64 c.size, .int .i64 c.pages, .slice c.ca c.cn c.cc, .slice c.ka c.kn c.kc, .int .i64 c.step, .int .i64 c.slots, .int .i64 c.gens, .int .i64 c.most] 24))) hn)
  have b0 := Lib.hid (below1 w (.cells #[.int .i64 c.size, .int .i64 c.pages, .slice c.ca c.cn c.cc, .slice c.ka c.kn c.kc, .int .i64 c.step, .int .i64 c.slots, .int .i64 c.gens, .int .i64 c.most] 24))
  have B0 := Boxed.new w c
  have ⟨x0, x1, x2, x3, x4, x5, x6, x7, x8⟩ := B0
  unfold PagesEnd at HP
  cases ha : l.all (isT c) with
  | false =>
    have e : pagesOut c l = (0, 3) := if_neg (by rw [ha]; simp)
    rw [e] at HP
    have e2 : mostOut c l ms = (0, 3) := if_neg (by rw [ha]; simp)
    have HF := Lib.hid e2
    clear e e2 ha hlen hfew hkl hk2 hml hc hl hm h
    go_enter Try.func12, Try.ntmps12
    go_wp2_with fail
    refine HP.out.mono ?_
    rintro e w2 ⟨rfl, f2⟩
    go_wp2
    go_ret2
    unfold MostEnd
    rw [HF.out]
    exact ⟨rfl, belowT b0.out f2⟩
  | true =>
    rw [pages_on ha] at HP
    have pn := pagesN_in h (by have := hl.len; omega) ha
    by_cases hmc : m = c.cn
    · have d1 : ((m : Int) != (c.cn : Int)) = false := by simp [hmc]
      have d1' : (m != c.cn) = false := by simp [hmc]
      have e2 : mostOut c l ms = (pagesN c l + sumTo (moreOf c ms) c.cn, 0) := by
        unfold mostOut
        rw [if_pos ha, if_pos (by omega)]
      have k1 := sumTo_in (f := keepAt c) (n := c.kn) (m := 1024) (by omega) (fun j _ => keepAt_in h j)
      have m1 := sumTo_in (f := moveAt ms) (n := m) (m := 1) (by omega) (fun j _ => moveAt_in ms j)
      have k2 := k1 c.kn (Nat.le_refl _)
      have m2 := m1 m (Nat.le_refl _)
      have HK := Lib.hid (fun v hv => sumInt_any 32 #[] (keepAt c) (by intro _ _; kernel_rfl) c.ka c.kn c.kc c.ks _ v hv (tells_keep c v) k1 (by omega))
      have HV := Lib.hid (fun v hv => sumBool_any 34 #[] (moveAt ms) (by intro _ _; kernel_rfl) am m km ms _ v hv (tells_move ms v) m1 (by omega))
      rw [most_sum] at e2
      have ekn : c.kn = c.cn := by omega
      rw [← ekn] at e2
      have em : c.kn = m := by omega
      have e3 : sumTo (moveAt ms) c.kn = sumTo (moveAt ms) m := by rw [em]
      rw [e3] at e2
      have HF := Lib.hid e2
      have HKo := Lib.hid (hc.keep.on (below1 w (.cells #[.int .i64 c.size, .int .i64 c.pages, .slice c.ca c.cn c.cc, .slice c.ka c.kn c.kc, .int .i64 c.step, .int .i64 c.slots, .int .i64 c.gens, .int .i64 c.most] 24)))
      have HMo := Lib.hid (hm.on (below1 w (.cells #[.int .i64 c.size, .int .i64 c.pages, .slice c.ca c.cn c.cc, .slice c.ka c.kn c.kc, .int .i64 c.step, .int .i64 c.slots, .int .i64 c.gens, .int .i64 c.most] 24)))
      have kk : 0 ≤ sumTo (keepAt c) c.kn ∧ sumTo (keepAt c) c.kn ≤ 16384 := by omega
      have mm : 0 ≤ sumTo (moveAt ms) m ∧ sumTo (moveAt ms) m ≤ 16 := by omega
      clear k1 m1 k2 m2 e2 e3 em ekn ha hlen hfew hkl hk2 hml hc hl hm h hmc
      generalize sumTo (keepAt c) c.kn = K at *
      generalize sumTo (moveAt ms) m = V at *
      generalize pagesN c l = N at *
      go_enter Try.func12, Try.ntmps12
      go_wp2_with fail
      refine HP.out.mono ?_
      rintro e w2 ⟨rfl, f2⟩
      have B2 := B0.on f2
      have K2 := Lib.hid (HKo.out.on f2)
      have M2 := Lib.hid (HMo.out.on f2)
      have b2 := Lib.hid (belowT b0.out f2)
      clear x0 x1 x2 x3 x4 x5 x6 x7 f2 b0 HKo HMo HP B0
      have ⟨x0, x1, x2, x3, x4, x5, x6, x7, _⟩ := B2
      go_wp2_with fail
      refine (HK.out _ K2.out).mono ?_
      rintro e w3 ⟨rfl, f3⟩
      have M3 := Lib.hid (M2.out.on f3)
      have b3 := Lib.hid (belowT b2.out f3)
      go_wp2_with fail
      refine (HV.out _ M3.out).mono ?_
      rintro e w4 ⟨rfl, f4⟩
      go_wp2
      go_ret2
      unfold MostEnd
      rw [HF.out]
      refine ⟨?_, belowT b3.out f4⟩
      show _ = Ending.returned (Value.tuple #[Value.int IntKind.i64 (N + (K + V)), Value.int IntKind.i64 0])
      rw [← Int.add_assoc]
      rfl
    · have d1 : ((m : Int) != (c.cn : Int)) = true := by simp; omega
      have d1' : (m != c.cn) = true := by simp; omega
      have e2 : mostOut c l ms = (0, 1) := by
        unfold mostOut
        rw [if_pos ha, if_neg (by omega)]
      have HF := Lib.hid e2
      clear e2 ha hlen hfew hkl hk2 hml hc hl hm h hmc
      generalize pagesN c l = N at *
      go_enter Try.func12, Try.ntmps12
      go_wp2_with fail
      refine HP.out.mono ?_
      rintro e w2 ⟨rfl, f2⟩
      have B2 := B0.on f2
      have b2 := Lib.hid (belowT b0.out f2)
      clear x0 x1 x2 x3 x4 x5 x6 x7 f2
      have ⟨x0, x1, x2, x3, x4, x5, x6, x7, _⟩ := B2
      go_wp2
      go_ret2
      unfold MostEnd
      rw [HF.out]
      exact ⟨rfl, b2.out⟩
end Go.Proofs.Ytkcdehnpkephgaa
