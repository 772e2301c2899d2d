/-
  Pages of package need, and its two closures, met by contracts: of a layout that may be, the plain 'pagesOut'; all memory that was there is as it was.
-/
import Derived.Test.YtkcdehnpkephgaaNeedLives
import Derived.Test.YtkcdehnpkephgaaNeedSum
import Derived.Test.YtkcdehnpkephgaaChainAsk
namespace Go.Proofs.Ytkcdehnpkephgaa
open Go.ChangeShapes Go.WideShapes Go.ChangeAt Go.RowKit

theorem Fit.nat {k : Nat} (h : k ≤ 1000000) : Fit (k : Int) := by unfold Fit; omega

/-! ### The closures -/
theorem blocksOf_any (c : Cf) (k x : Int) (g : Nat) (w : World) (hB : Boxed w g c) (hc : c.Ok w w.heap.size) (hk : Fit k) (hx : x ≤ 9223372036854775807) :
    Calls Try.prog 26 #[.int .i64 k, .int .i64 x, .pointer (some ⟨g, 0, none⟩)] w (IB (many x (blocks c k)) w) := by
  have ⟨x0, x1, x2, x3, x4, x5, x6, x7, x8⟩ := hB
  have H := Lib.hid (blocks_any c k w hc hk)
  clear hB hc
  go_enter Try.func26, Try.ntmps26
  go_wp2_with fail
  refine H.out.mono ?_
  rintro e w1 ⟨rfl, f1⟩
  go_wp2_with fail
  refine (many_any x (blocks c k) w1 hx).mono ?_
  rintro e w2 ⟨rfl, f2⟩
  go_wp2
  go_ret
  exact ⟨rfl, belowT f1 f2.below⟩
theorem chainOf_any (c : Cf) (k s : Int) (g q : Nat) (w : World) (hB : Boxed w g c) (hq : w.cell? ⟨q, 0, none⟩ = some (.int .i64 (small c))) (hs : s ≤ 9223372036854775807) :
    Calls Try.prog 29 #[.int .i64 k, .int .i64 s, .pointer (some ⟨q, 0, none⟩), .pointer (some ⟨g, 0, none⟩)] w (IB (bigOf c s) w) := by
  have x0 := hB.c0
  unfold bigOf
  by_cases h : small c < s
  · rw [if_pos h]
    have d : decide (s ≤ small c) = false := decide_eq_false (by omega)
    have H := Lib.hid (all_any s c.size w hs)
    clear hB
    go_enter Try.func29, Try.ntmps29
    go_wp2_with fail
    refine H.out.mono ?_
    rintro e w1 ⟨rfl, f1⟩
    go_wp2
    go_ret
    exact ⟨rfl, f1.below⟩
  · rw [if_neg h]
    have d : decide (s ≤ small c) = true := decide_eq_true (by omega)
    clear hB
    go_enter Try.func29, Try.ntmps29
    go_wp2
    go_ret
    exact ⟨rfl, Below.refl _ _⟩

/-! ### The sums -/
theorem sumTo_front (f : Nat → Int) (n : Nat) : sumTo f (n + 1) = f 0 + sumTo (fun k => f (k + 1)) n := by
  induction n with
  | zero => simp [sumTo]
  | succ n ih =>
    have e : sumTo f (n + 1 + 1) = sumTo f (n + 1) + f (n + 1) := rfl
    rw [e, ih]
    simp only [sumTo]
    omega
theorem sumTo_list (g : Int → Int) : ∀ l : List Int, sumTo (fun k => g ((l[k]?).getD 0)) l.length = (l.map g).sum := by
  intro l
  induction l with
  | nil => rfl
  | cons x r ih =>
    rw [List.length_cons, sumTo_front]
    have e : (fun k : Nat => g (((x :: r)[k + 1]?).getD 0)) = fun k : Nat => g ((r[k]?).getD 0) := by funext k; rw [List.getElem?_cons_succ]
    rw [e, ih, List.map_cons, List.sum_cons]
    rfl
/-- One sum of what is no less than 0, and no more than m. -/
theorem sumTo_in {f : Nat → Int} {n : Nat} {m : Int} (h0 : 0 ≤ m) (h : ∀ k, k < n → 0 ≤ f k ∧ f k ≤ m) : ∀ k, k ≤ n → 0 ≤ sumTo f k ∧ sumTo f k ≤ n * m := by
  intro k hk
  refine ⟨sumTo_nonneg fun j hj => (h j (by omega)).1, ?_⟩
  have a := sumTo_bound (f := f) (n := k) (m := m) fun j hj => (h j (by omega)).2
  have b : (k : Int) * m ≤ (n : Int) * m := Int.mul_le_mul_of_nonneg_right (by omega) h0
  omega

/-- How Pages ends. -/
def PagesEnd (c : Cf) (l : List Int) (w : World) (e : Ending) (w' : World) : Prop :=
  e = .returned (.tuple #[.int .i64 (pagesOut c l).1, .int .i64 (pagesOut c l).2]) ∧ Below w.heap.size w w'
theorem pages_on {c : Cf} {l : List Int} (h : l.all (isT c) = true) : pagesOut c l = (pagesN c l, 0) := if_pos h
theorem pages_off {c : Cf} {l : List Int} {k : Nat} {s : Int} (hk : l[k]? = some s) (h : ¬ (1 ≤ s ∧ s ≤ c.most)) : pagesOut c l = (0, 3) := by
  refine if_neg fun q => h ?_
  rw [List.all_eq_true] at q
  exact isT_true.1 (q s (List.mem_of_getElem? hk))
theorem all_next {c : Cf} {l : List Int} {k : Nat} {s : Int} (h : (l.take k).all (isT c) = true) (hk : l[k]? = some s) (hs : 1 ≤ s ∧ s ≤ c.most) : (l.take (k + 1)).all (isT c) = true := by
  rw [List.take_add_one, hk, List.all_append, h]
  simp [isT, hs.1, hs.2]

section
variable {c : Cf} {l : List Int} {a : Option Addr} {n : Nat} {w w1 w2 w3 : World} {g q : Nat}
/-- What the first sum is told. -/
theorem tells_blocks (h : MayC c) (hl : l.length ≤ 1000000) (hB : Boxed w1 g c) (hc : c.Ok w1 w1.heap.size) :
    TellsAt 26 #[.pointer (some ⟨g, 0, none⟩)] (fun k => many (liveN c l (k : Int)) (blocks c (k : Int))) (livesL c l) w1 := by
  intro k x v hx hv
  have hk : k < c.xs.length := by have := (List.getElem?_eq_some_iff.1 hx).1; rw [livesL_len] at this; exact this
  rw [livesL_at c l hk] at hx
  cases hx
  have := liveN_len (c := c) (l := l) (k := (k : Int))
  have hf := h.few
  exact blocksOf_any c (k : Int) _ g v (hB.on hv) (hc.on hv) (Fit.nat (by omega)) (by omega)
theorem tells_chains (hl : Ints w w.heap.size a n l) (hB : Boxed w1 g c) (hq : w1.cell? ⟨q, 0, none⟩ = some (.int .i64 (small c))) (hq1 : q < w1.heap.size) :
    TellsAt 29 #[.pointer (some ⟨q, 0, none⟩), .pointer (some ⟨g, 0, none⟩)] (fun k => bigOf c ((l[k]?).getD 0)) l w1 := by
  intro k x v hx hv
  have e : (l[k]?).getD 0 = x := by rw [hx]; rfl
  show Calls _ _ _ v (IB (bigOf c ((l[k]?).getD 0)) v)
  rw [e]
  exact chainOf_any c (k : Int) x g q v (hB.on hv) ((hv.cell (p := ⟨q, 0, none⟩) hq1).trans hq) (hl.fit hx).2
end

set_option maxHeartbeats 2000000 in
theorem needPages_any (c : Cf) (a : Option Addr) (n k0 : Nat) (l : List Int) (w : World) (hc : c.Ok w w.heap.size) (h : MayC c) (hl : Ints w w.heap.size a n l) (hn : n ≤ 1000000) :
    Calls Try.prog 10 #[(.agg #[.int .i64 c.size, .int .i64 c.pages, .slice c.ca c.cn c.cc, .slice c.ka c.kn c.kc, .int .i64 c.step, .int .i64 c.slots, .int .i64 c.gens, .int .i64 c.most]), .slice a n k0] w (PagesEnd c l w) := by
  have hlen := hc.classes.len
  have hll := hl.len
  have hmk : ∀ (fn : Fn) (first cap : Array Value) (w : World), (Instr.makeFunc fn first cap).run Try.prog w = .ok (.func fn first cap) w := fun _ _ _ _ => rfl
  have B0 := Boxed.new w c
  have O0 := Lib.hid (hc.on (below1 w (.cells #[.int .i64 c.size, .int .i64 c.pages, .slice c.ca c.cn c.cc, .slice c.ka c.kn c.kc, .int .i64 c.step, .int .i64 c.slots, .int .i64 c.gens, .int .i64 c.most] 24)))
  have L0 := Lib.hid (hl.on (below1 w (.cells #[.int .i64 c.size, .int .i64 c.pages, .slice c.ca c.cn c.cc, .slice c.ka c.kn c.kc, .int .i64 c.step, .int .i64 c.slots, .int .i64 c.gens, .int .i64 c.most] 24)))
  have b0 := Lib.hid (below1 w (.cells #[.int .i64 c.size, .int .i64 c.pages, .slice c.ca c.cn c.cc, .slice c.ka c.kn c.kc, .int .i64 c.step, .int .i64 c.slots, .int .i64 c.gens, .int .i64 c.most] 24))
  have HM := Lib.hid h
  have HL := Lib.hid hll
  have HC := Lib.hid hlen
  clear hlen hll h hc
  go_enter Try.func10, Try.ntmps10
  go_wp2
  generalize w.alloc (.cells #[.int .i64 c.size, .int .i64 c.pages, .slice c.ca c.cn c.cc, .slice c.ka c.kn c.kc, .int .i64 c.step, .int .i64 c.slots, .int .i64 c.gens, .int .i64 c.most] 24) = w1 at *
  have ⟨x0, x1, x2, x3, x4, x5, x6, x7, x8⟩ := B0
  go_loop [13] (fun i => ∃ k : Nat, k ≤ n ∧ i = .int .i64 k ∧ (l.take k).all (isT c) = true) (fun i => n - (intOf i).toNat)
  case atStart => exact ⟨0, Nat.zero_le _, rfl, rfl⟩
  case round =>
    obtain ⟨k, hk, rfl, ha⟩ := hrel
    by_cases hlt : k < n
    · obtain ⟨s, hs, s1, s2⟩ := L0.out.at_ hlt
      obtain ⟨b, o, rfl, hb, hcl⟩ := L0.out.head (by omega)
      have hcell := hcl k s hs
      have HS := Lib.hid hs
      have HA := Lib.hid ha
      clear hcl hs ha
      by_cases h1 : s < 1
      · have HF := Lib.hid (pages_off (c := c) HS.out (by omega))
        have d1 : decide (s < 1) = true := by simpa using h1
        go_wp2
        go_ret2
        unfold PagesEnd
        rw [HF.out]
        exact ⟨rfl, b0.out⟩
      · have d1 : decide (s < 1) = false := by simpa using h1
        by_cases h2 : c.most < s
        · have HF := Lib.hid (pages_off (c := c) HS.out (by omega))
          have d2 : decide (c.most < s) = true := by simpa using h2
          go_wp2
          go_ret2
          unfold PagesEnd
          rw [HF.out]
          exact ⟨rfl, b0.out⟩
        · have d2 : decide (c.most < s) = false := by simpa using h2
          have HN := all_next HA.out HS.out ⟨by omega, by omega⟩
          go_wp2
          go_round
          case rel => exact ⟨k + 1, by omega, by go_num, HN⟩
          case measure => simp [intOf]; omega
    · obtain rfl : k = n := by omega
      have hall : l.all (isT c) = true := by rw [← ha, List.take_of_length_le (by have := HL.out; omega)]
      have HA := Lib.hid hall
      have HF := Lib.hid (pages_on hall)
      clear ha hall
      clear x0 x1 x2 x3 x4 x5 x6 x7
      have ⟨x0, x1, x2, x3, x4, x5, x6, x7, _⟩ := B0
      go_wp2_with fail
      refine (small_any c _ O0.out).mono ?_
      rintro e w2 ⟨rfl, f2⟩
      have fit : Fit (small c) := sizeAt_fit O0.out.classes _
      have B2 := (B0.on f2).on (below1 w2 (.cells #[.int .i64 (small c)] 3))
      have O2 := Lib.hid ((O0.out.on f2).on (below1 w2 (.cells #[.int .i64 (small c)] 3)))
      have L2 := Lib.hid ((L0.out.on f2).on (below1 w2 (.cells #[.int .i64 (small c)] 3)))
      have b2 := Lib.hid (belowT b0.out (belowT f2 (below1 w2 (.cells #[.int .i64 (small c)] 3))))
      have q2 : (w2.alloc (.cells #[.int .i64 (small c)] 3)).cell? ⟨w2.heap.size, 0, none⟩ = some (.int .i64 (small c)) := by simp
      have q3 : w2.heap.size < (w2.alloc (.cells #[.int .i64 (small c)] 3)).heap.size := by simp
      clear x0 x1 x2 x3 x4 x5 x6 x7 O0 L0 b0 f2
      have ⟨x0, x1, x2, x3, x4, x5, x6, x7, _⟩ := B2
      go_wp2_with fail
      refine (lives_any c a k k0 l _ O2.out HM.out L2.out hn).mono ?_
      rintro e w3 ⟨g, rfl, R3, g3, f3⟩
      have B3 := B2.on f3
      have O3 := O2.out.on f3
      have L3 := Lib.hid (L2.out.on f3)
      have b3 := Lib.hid (belowT b2.out f3)
      have q4 := (f3.cell (p := ⟨w2.heap.size, 0, none⟩) q3).trans q2
      have q5 : w2.heap.size < w3.heap.size := Nat.lt_of_lt_of_le q3 f3.size
      clear x0 x1 x2 x3 x4 x5 x6 x7 O2 L2 b2 f3 q2 q3 B2
      have hcn : c.cn = (livesL c l).length := by rw [livesL_len]; exact HC.out.symm
      have hI := R3.ints
      rw [← hcn] at hI
      have T1 := tells_blocks HM.out (l := l) (by have := HL.out; omega) B3 O3
      have hfew := HM.out.few
      have S1 := sumTo_in (f := fun k => many (liveN c l (k : Int)) (blocks c (k : Int))) (n := c.cn) (m := 1000000) (by omega) (fun j _ => by
        have e1 := many_any_bounds (x := ((liveN c l (j : Int) : Nat) : Int)) (p := blocks c (j : Int)) (by omega)
        have e2 := liveN_len (c := c) (l := l) (k := (j : Int))
        have := HL.out
        omega)
      have HS1 := Lib.hid (sumInt_any 26 #[.pointer (some ⟨w.heap.size, 0, none⟩)] _ (by intro _ _; kernel_rfl) (some ⟨g, 0, none⟩) c.cn c.cn (livesL c l) _ w3 hI T1 S1 (by have := HC.out; omega))
      have e1 : sumTo (fun k => many (liveN c l (k : Int)) (blocks c (k : Int))) c.cn = smallN c l := by unfold smallN; rw [HC.out]
      rw [e1] at HS1
      clear e1 S1 T1 hI R3 hcn
      have ⟨x0, x1, x2, x3, x4, x5, x6, x7, x9⟩ := B3
      go_wp2_with fail
      refine HS1.out.mono ?_
      rintro e w4 ⟨rfl, f4⟩
      have B4 := B3.on f4
      have L4 := Lib.hid (L3.out.on f4)
      have b4 := Lib.hid (belowT b3.out f4)
      have q6 := (f4.cell (p := ⟨w2.heap.size, 0, none⟩) q5).trans q4
      have q7 : w2.heap.size < w4.heap.size := Nat.lt_of_lt_of_le q5 f4.size
      clear x0 x1 x2 x3 x4 x5 x6 x7 L3 b3 f4 q4 q5 B3 O3 HS1
      have T2 := tells_chains L4.out B4 q6 q7
      have S2 := sumTo_in (f := fun j => bigOf c ((l[j]?).getD 0)) (n := k) (m := 4194305) (by omega) (fun j hj => by
        obtain ⟨s, hs, _, _⟩ := L4.out.at_ hj
        have e : (l[j]?).getD 0 = s := by rw [hs]; rfl
        show 0 ≤ bigOf c ((l[j]?).getD 0) ∧ bigOf c ((l[j]?).getD 0) ≤ 4194305
        rw [e]
        have := HA.out
        rw [List.all_eq_true] at this
        exact bigOf_bounds HM.out (isT_true.1 (this s (List.mem_of_getElem? hs))).2)
      have HS2 := Lib.hid (sumInt_any 29 #[.pointer (some ⟨w2.heap.size, 0, none⟩), .pointer (some ⟨w.heap.size, 0, none⟩)] _ (by intro _ _; kernel_rfl) a k k0 l _ w4 L4.out T2 S2 (by omega))
      have e2 : sumTo (fun j => bigOf c ((l[j]?).getD 0)) k = bigN c l := by rw [← HL.out]; exact sumTo_list (bigOf c) l
      rw [e2] at HS2
      obtain ⟨p1, p2⟩ := smallN_bounds HM.out l
      obtain ⟨p3, p4⟩ := bigN_bounds HM.out l HA.out
      have p5 := HL.out
      have p6 : 0 ≤ smallN c l ∧ smallN c l ≤ 16000000 := by omega
      have p7 : 0 ≤ bigN c l ∧ bigN c l ≤ 4194305000000 := by omega
      have e3 : pagesN c l = smallN c l + bigN c l := by unfold pagesN; omega
      have HE := Lib.hid e3
      clear e2 e3 S2 T2 p1 p2 p3 p4 p5 B4 q6 q7
      go_wp2_with fail
      refine HS2.out.mono ?_
      rintro e w5 ⟨rfl, f5⟩
      go_wp2
      go_ret2
      unfold PagesEnd
      rw [HF.out]
      refine ⟨?_, belowT b4.out f5⟩
      show _ = Ending.returned (Value.tuple #[Value.int IntKind.i64 (pagesN c l), Value.int IntKind.i64 0])
      rw [HE.out]
      rfl
end Go.Proofs.Ytkcdehnpkephgaa
