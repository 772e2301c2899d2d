/-
  The document's own answers for package arena (almeryref06): Copy.
-/
import Derived.Test.YtadljlkflmodiaaArenaRefWrite
import Derived.Deep.RegionWith
namespace Go.Proofs.Ytadljlkflmodiaa
open Go.ChangeShapes Go.WideShapes Go.ChangeAt Go.RowKit

theorem below4 (w : World) (a b c d : Obj) : Below w.heap.size w ((((w.alloc a).alloc b).alloc c).alloc d) := (below3 w a b c).alloc (by simp; omega) d

theorem refCopy_bad (a : Option Addr) (n c : Nat) (s to from_ k : Int) (w : World) (hn : n ≤ 4194304) (ht : ¬ (thereB n from_ k ∧ thereB n to k)) :
    Calls Try.prog 44 #[.agg #[.slice a n c, .int .i64 s], .int .i64 to, .int .i64 from_, .int .i64 k] w fun e w' => e = .returned (.tuple #[.agg #[.slice a n c, .int .i64 s], .int .i64 8]) ∧ Below w.heap.size w w' := by
  by_cases h1 : thereB n from_ k
  · have H1 : Hid (decide (thereB n from_ k) = true) := Lib.hid (by simpa using h1)
    have H2 : Hid (decide (thereB n to k) = false) := Lib.hid (by rw [decide_eq_false_iff_not]; exact fun q => ht ⟨h1, q⟩)
    clear ht h1
    go_enter Try.func44, Try.ntmps44
    go_wp2_with fail
    refine (refThere_any a n c s from_ k _ hn).mono ?_
    rw [H1.out]
    rintro e w1 ⟨rfl, rfl⟩
    go_wp2_with fail
    refine (refThere_any a n c s to k _ hn).mono ?_
    rw [H2.out]
    rintro e w1 ⟨rfl, rfl⟩
    go_wp2
    refine bodyPost_ret (v := .tuple #[.agg #[.slice a n c, .int .i64 s], .int .i64 8]) (by simp [results, Try.results44, go_sem]) rfl ?_
    exact ⟨rfl, below4 w _ _ _ _⟩
  · have H1 : Hid (decide (thereB n from_ k) = false) := Lib.hid (by simpa using h1)
    clear ht h1
    go_enter Try.func44, Try.ntmps44
    go_wp2_with fail
    refine (refThere_any a n c s from_ k _ hn).mono ?_
    rw [H1.out]
    rintro e w1 ⟨rfl, rfl⟩
    go_wp2
    refine bodyPost_ret (v := .tuple #[.agg #[.slice a n c, .int .i64 s], .int .i64 8]) (by simp [results, Try.results44, go_sem]) rfl ?_
    exact ⟨rfl, below3 w _ _ _⟩

theorem Bytes.part {w : World} {B b o n : Nat} {xs : List Int} (h : Bytes w B (some ⟨b, o, none⟩) n xs) {i k o' : Nat} (hk : i + k ≤ n) (ho : 0 < k → o' = o + i) : Bytes w B (some ⟨b, o', none⟩) k (sub xs i k) := by
  have hl := h.len
  have hm := h.max
  refine ⟨length_sub _ _ _ (by omega), by omega, h.fit.sub _ _, fun h0 => ?_⟩
  obtain ⟨b', p, e, hb, hc⟩ := h.head (by omega)
  injection e with e
  injection e with e1 e2
  subst e1 e2
  refine ⟨b, o', rfl, hb, fun j s hs => ?_⟩
  have hj : j < k := by have := (List.getElem?_eq_some_iff.1 hs).1; rwa [length_sub _ _ _ (by omega)] at this
  rw [sub_get hj] at hs
  have := hc _ _ hs
  rw [ho h0, Nat.add_assoc]
  exact this

theorem refCopy_ok (b o n c : Nat) (s : Int) (to from_ k : Nat) (xs : List Int) (w : World) (hx : Bytes w w.heap.size (some ⟨b, o, none⟩) n xs) (hnc : n ≤ c) (hn : 0 < n) (hm : n ≤ 4194304) (s0 : 0 ≤ s) (s1 : s ≤ 1000000) (ht : to + k ≤ n) (hf : from_ + k ≤ n) :
    Calls Try.prog 44 #[.agg #[.slice (some ⟨b, o, none⟩) n c, .int .i64 s], .int .i64 (to : Int), .int .i64 (from_ : Int), .int .i64 (k : Int)] w (Lays n (s + k) (splice xs to (sub xs from_ k)) w) := by
  have H1 : Hid (decide (thereB n (from_ : Int) (k : Int)) = true) := Lib.hid (by rw [decide_eq_true_iff]; exact ⟨by omega, by omega, by omega⟩)
  have H2 : Hid (decide (thereB n (to : Int) (k : Int)) = true) := Lib.hid (by rw [decide_eq_true_iff]; exact ⟨by omega, by omega, by omega⟩)
  have hw2 : IntKind.i64.wrap ((from_ : Int) + (k : Int)) = (from_ : Int) + (k : Int) := IntWalk.i64_in _ (by omega)
  obtain ⟨o', c', ho, hc', hcut⟩ := cut_lh (b := b) (o := o) (n := n) (c := c) (i := from_) (k := k) (by omega)
  obtain ⟨W, hW⟩ : ∃ W : World, W = ((((w.alloc (.cells #[.slice (some ⟨b, o, none⟩) n c, .int .i64 s] 35)).alloc (.cells #[.slice none 0 0, .int .i64 0] 35)).alloc (.cells #[.slice (some ⟨b, o, none⟩) n c, .int .i64 s] 35)).alloc (.cells #[.slice (some ⟨b, o, none⟩) n c, .int .i64 s] 35)) := ⟨_, rfl⟩
  have bW : Below w.heap.size w W := by rw [hW]; exact below4 w _ _ _ _
  have sW : W.heap.size = w.heap.size + 4 := by rw [hW]; simp
  have X0 : RB W w.heap.size (some ⟨b, o, none⟩) n c s := by rw [hW]; exact (RB.new w (some ⟨b, o, none⟩) n c s).below (below3 _ _ _ _)
  have Z0 : RB W (w.heap.size + 1) none 0 0 0 := by
    rw [hW]
    have := (RB.new (w.alloc (.cells #[.slice (some ⟨b, o, none⟩) n c, .int .i64 s] 35)) none 0 0 0).below (below2 _ (.cells #[.slice (some ⟨b, o, none⟩) n c, .int .i64 s] 35) (.cells #[.slice (some ⟨b, o, none⟩) n c, .int .i64 s] 35))
    simpa using this
  have XW := hx.on bW
  have HC : Hid (Calls Try.prog 14 #[.agg #[.slice (some ⟨b, o, none⟩) n c, .int .i64 s], .int .i64 (to : Int), .slice (some ⟨b, o', none⟩) k c'] W.drew (Lays n (s + k) (splice xs to (sub xs from_ k)) W.drew)) :=
    Lib.hid (refWrite_ok (some ⟨b, o, none⟩) n c s to (some ⟨b, o', none⟩) k c' xs (sub xs from_ k) W.drew XW.drew (XW.part hf ho).drew hn hm s0 s1 ht)
  have Z1 : Hid (RB W.drew (w.heap.size + 1) none 0 0 0) := Lib.hid (Z0.but ((But.refl (fun _ => False) W).drew) id)
  obtain ⟨p0, p1, p2, p3⟩ := X0
  have HB := Lib.hid bW
  have HW := Lib.hid hW
  have HS := Lib.hid sW
  have HM := Lib.hid hm
  clear Z0 hx XW bW sW hW hf ht ho hc' hnc s0 s1 hm hn
  go_enter Try.func44, Try.ntmps44
  go_wp2_with fail
  refine (refThere_any (some ⟨b, o, none⟩) n c s from_ k _ HM.out).mono ?_
  rw [H1.out]
  rintro e w1 ⟨rfl, rfl⟩
  go_wp2_with fail
  refine (refThere_any (some ⟨b, o, none⟩) n c s to k _ HM.out).mono ?_
  rw [H2.out, ← HW.out]
  rintro e w1 ⟨rfl, rfl⟩
  go_wp2
  go_region_with (go_at_call 14; refine HC.out.mono ?_; rintro e w5 ⟨g, cap, rfl, r5, b5, hcap, hg⟩; obtain ⟨q0, q1, q2, q3⟩ := Z1.out.below b5; have R5 := Lib.hid r5; have B5 := Lib.hid b5; have HCP := Lib.hid hcap; have HG := Lib.hid hg; clear r5 b5 hcap hg)
  all_goals
    go_wp2
    refine bodyPost_ret (v := .tuple #[.agg #[.slice (some ⟨g, 0, none⟩) n cap, .int .i64 (s + k)], .int .i64 0]) (by simp [results, Try.results44, go_sem, q0, q1]) rfl ?_
    have hb := but_two w5 (w.heap.size + 1) (.slice (some ⟨g, 0, none⟩) n cap) (.int .i64 (s + k))
    have hG : w1.heap.size ≤ g := HG.out
    have h2 := HS.out
    have B6 := belowT (belowD HB.out) B5.out
    exact ⟨g, cap, rfl, R5.out.but hb (fun e => by omega), B6.trans (hb.one B6.size (by omega)), HCP.out, by omega⟩
end Go.Proofs.Ytadljlkflmodiaa
