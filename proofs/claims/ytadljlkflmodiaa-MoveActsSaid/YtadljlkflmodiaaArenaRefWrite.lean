/-
  The document's own answers for package arena (almeryref06): Write.
-/
import Derived.Test.YtadljlkflmodiaaArenaRefLay
namespace Go.Proofs.Ytadljlkflmodiaa
open Go.ChangeShapes Go.WideShapes Go.ChangeAt Go.RowKit

/-- How one that lays something ends. -/
def Lays (n : Nat) (s : Int) (xs : List Int) (w : World) (e : Ending) (w' : World) : Prop :=
  ∃ g cap, e = .returned (.tuple #[.agg #[.slice (some ⟨g, 0, none⟩) n cap, .int .i64 s], .int .i64 0]) ∧ Row w' g xs ∧ Below w.heap.size w w' ∧ n ≤ cap ∧ w.heap.size ≤ g

theorem refWrite_bad (a : Option Addr) (n c : Nat) (s at_ : Int) (ya : Option Addr) (yn yc : Nat) (w : World) (hn : n ≤ 4194304) (_hy : yn ≤ 9223372036854775807) (ht : ¬ thereB n at_ yn) :
    Calls Try.prog 14 #[.agg #[.slice a n c, .int .i64 s], .int .i64 at_, .slice ya yn yc] w fun e w' => e = .returned (.tuple #[.agg #[.slice a n c, .int .i64 s], .int .i64 8]) ∧ Below w.heap.size w w' := by
  have HT : Hid (decide (thereB n at_ (yn : Int)) = false) := Lib.hid (by simpa using ht)
  clear ht
  go_enter Try.func14, Try.ntmps14
  go_wp2_with fail
  refine (refThere_any a n c s at_ yn _ hn).mono ?_
  rw [HT.out]
  rintro e w1 ⟨rfl, rfl⟩
  go_wp2
  refine bodyPost_ret (v := .tuple #[.agg #[.slice a n c, .int .i64 s], .int .i64 8]) (by simp [results, Try.results14, go_sem]) rfl ?_
  exact ⟨rfl, below3 w _ _ _⟩

theorem refWrite_ok (a : Option Addr) (n c : Nat) (s : Int) (at_ : Nat) (ya : Option Addr) (yn yc : Nat) (xs ys : List Int) (w : World) (hx : Bytes w w.heap.size a n xs) (hy : Bytes w w.heap.size ya yn ys) (hn : 0 < n) (hm : n ≤ 4194304) (s0 : 0 ≤ s) (s1 : s ≤ 1000000) (hf : at_ + yn ≤ n) :
    Calls Try.prog 14 #[.agg #[.slice a n c, .int .i64 s], .int .i64 (at_ : Int), .slice ya yn yc] w (Lays n (s + yn) (splice xs at_ ys) w) := by
  have HT : Hid (decide (thereB n (at_ : Int) (yn : Int)) = true) := Lib.hid (by rw [decide_eq_true_iff]; exact ⟨by omega, by omega, by omega⟩)
  have hw1 : IntKind.i64.wrap (s + (yn : Int)) = s + (yn : Int) := IntWalk.i64_in _ (by omega)
  have hmax := hy.max
  have HX := Lib.hid hx
  have HY := Lib.hid hy
  have HF := Lib.hid hf
  clear hx hy hf s0 s1
  go_enter Try.func14, Try.ntmps14
  go_wp2_with fail
  refine (refThere_any a n c s at_ yn _ hm).mono ?_
  rw [HT.out]
  rintro e w1 ⟨rfl, rfl⟩
  go_wp2_with fail
  refine (refLay_any a n c (s + yn) at_ ya yn yc xs ys _ (HX.out.on (below3 w _ _ _)) (HY.out.on (below3 w _ _ _)) hn hm HF.out).mono ?_
  rintro e w5 ⟨g, cap, rfl, r5, b5, hcap, hg⟩
  have Z : RB (((w.alloc (.cells #[.slice a n c, .int .i64 (s + (yn : Int))] 35)).alloc (.cells #[.slice none 0 0, .int .i64 0] 35)).alloc (.cells #[.slice a n c, .int .i64 s] 35)) (w.heap.size + 1) none 0 0 0 := by
    have := (RB.new (w.alloc (.cells #[.slice a n c, .int .i64 (s + (yn : Int))] 35)) none 0 0 0).below (below1 _ (.cells #[.slice a n c, .int .i64 s] 35))
    simpa using this
  obtain ⟨q0, q1, q2, q3⟩ := Z.below b5
  have R5 := Lib.hid r5
  have B5 := Lib.hid (belowT (below3 w _ _ _) b5)
  have HC := Lib.hid hcap
  have HG := Lib.hid hg
  clear Z r5 b5 hcap hg
  go_wp2
  refine bodyPost_ret (v := .tuple #[.agg #[.slice (some ⟨g, 0, none⟩) n cap, .int .i64 (s + yn)], .int .i64 0]) (by simp [results, Try.results14, go_sem, q0, q1]) rfl ?_
  have hb := but_two w5 (w.heap.size + 1) (.slice (some ⟨g, 0, none⟩) n cap) (.int .i64 (s + yn))
  have hG := HG.out
  simp at hG
  exact ⟨g, cap, rfl, R5.out.but hb (fun e => by omega), B5.out.trans (hb.one B5.out.size (by omega)), HC.out, by omega⟩
end Go.Proofs.Ytadljlkflmodiaa
