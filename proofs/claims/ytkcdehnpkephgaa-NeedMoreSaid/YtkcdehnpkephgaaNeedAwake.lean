/-
  The laws' common beginning (almerylaw17.awake), met by a contract: three small things and a large one; it returns true, and leaves all memory that was there as it was.
-/
import Derived.Test.YtkcdehnpkephgaaNeedMost
namespace Go.Proofs.Ytkcdehnpkephgaa
open Go.ChangeShapes Go.WideShapes Go.ChangeAt Go.RowKit

/-- The small layout, its lists in blocks g and k. -/
def smallCf (g k : Nat) : Cf := ⟨64, 9, some ⟨g, 0, none⟩, 1, 1, some ⟨k, 0, none⟩, 1, 1, 8, 4, 3, 512, [32], [2]⟩
theorem ints_lit (w : World) (xs : List Int) (cs : Array Value) (t : TypeId) (hcs : cs = (xs.map (Value.int .i64)).toArray) (hm : xs.length ≤ 1000) (hf : ∀ x ∈ xs, -9223372036854775808 ≤ x ∧ x ≤ 9223372036854775807) :
    Ints (w.alloc (.cells cs t)) (w.alloc (.cells cs t)).heap.size (some ⟨w.heap.size, 0, none⟩) xs.length xs := by
  refine ⟨rfl, by omega, hf, fun _ => ⟨w.heap.size, 0, rfl, by simp, fun k s hs => ?_⟩⟩
  have hh : (w.alloc (.cells cs t)).heap[w.heap.size]? = some (.cells cs t) := by simp only [World.alloc, Array.getElem?_push, if_true]
  rw [World.cell?, hh]
  subst hcs
  simp [hs]
theorem bools_lit (w : World) (xs : List Bool) (cs : Array Value) (t : TypeId) (hcs : cs = (xs.map Value.bool).toArray) (hm : xs.length ≤ 1000) :
    Bools (w.alloc (.cells cs t)) (w.alloc (.cells cs t)).heap.size (some ⟨w.heap.size, 0, none⟩) xs.length xs := by
  refine ⟨rfl, by omega, fun _ => ⟨w.heap.size, 0, rfl, by simp, fun k s hs => ?_⟩⟩
  have hh : (w.alloc (.cells cs t)).heap[w.heap.size]? = some (.cells cs t) := by simp only [World.alloc, Array.getElem?_push, if_true]
  rw [World.cell?, hh]
  subst hcs
  simp [hs]
theorem fit_list {xs : List Int} (h : xs.all (fun x => decide (-1000 ≤ x ∧ x ≤ 1000)) = true) : ∀ x ∈ xs, -9223372036854775808 ≤ x ∧ x ≤ 9223372036854775807 := by
  intro x hx
  rw [List.all_eq_true] at h
  have := of_decide_eq_true (h x hx)
  omega

theorem small17_any (w : World) : Calls Try.prog 20 #[] w fun e w' =>
    ∃ g k : Nat, e = .returned (.agg #[.int .i64 64, .int .i64 9, .slice (some ⟨g, 0, none⟩) 1 1, .slice (some ⟨k, 0, none⟩) 1 1, .int .i64 8, .int .i64 4, .int .i64 3, .int .i64 512]) ∧ (smallCf g k).Ok w' w'.heap.size ∧ Below w.heap.size w w' := by
  have H : Calls Try.prog 20 #[] w fun e w' =>
      e = .returned (.agg #[.int .i64 64, .int .i64 9, .slice (some ⟨w.heap.size + 1, 0, none⟩) 1 1, .slice (some ⟨w.heap.size + 1 + 1, 0, none⟩) 1 1, .int .i64 8, .int .i64 4, .int .i64 3, .int .i64 512]) ∧
      w' = ((w.alloc (.cells #[.int .i64 64, .int .i64 9, .slice (some ⟨w.heap.size + 1, 0, none⟩) 1 1, .slice (some ⟨w.heap.size + 1 + 1, 0, none⟩) 1 1, .int .i64 8, .int .i64 4, .int .i64 3, .int .i64 512] 24)).alloc (.cells #[.int .i64 32] 3)).alloc (.cells #[.int .i64 2] 3) := by
    go_enter Try.func20, Try.ntmps20
    go_wp2
    exact bodyPost_ret (v := .agg #[.int .i64 64, .int .i64 9, .slice (some ⟨w.heap.size + 1, 0, none⟩) 1 1, .slice (some ⟨w.heap.size + 1 + 1, 0, none⟩) 1 1, .int .i64 8, .int .i64 4, .int .i64 3, .int .i64 512]) (by simp [results, Try.results20, go_sem]) rfl ⟨rfl, rfl⟩
  refine H.mono ?_
  rintro e w' ⟨rfl, rfl⟩
  generalize (Obj.cells #[.int .i64 64, .int .i64 9, .slice (some ⟨w.heap.size + 1, 0, none⟩) 1 1, .slice (some ⟨w.heap.size + 1 + 1, 0, none⟩) 1 1, .int .i64 8, .int .i64 4, .int .i64 3, .int .i64 512] 24) = o
  have h1 : (w.alloc o).heap.size = w.heap.size + 1 := by simp
  have h2 : ((w.alloc o).alloc (.cells #[.int .i64 32] 3)).heap.size = w.heap.size + 1 + 1 := by simp
  have i1 := ints_lit (w.alloc o) [32] #[.int .i64 32] 3 rfl (by simp) (fit_list (by decide))
  have i2 := ints_lit ((w.alloc o).alloc (.cells #[.int .i64 32] 3)) [2] #[.int .i64 2] 3 rfl (by simp) (fit_list (by decide))
  rw [h1] at i1
  rw [h2] at i2
  have i1' := i1.on (below1 _ (.cells #[.int .i64 2] 3))
  have b1 := below1 w o
  have b2 := (b1.alloc b1.size (.cells #[.int .i64 32] 3))
  have b3 := (b2.alloc b2.size (.cells #[.int .i64 2] 3))
  refine ⟨_, _, rfl, ⟨i1', i2, ?_, ?_, ?_, ?_, ?_, ?_⟩, b3⟩ <;> simp [smallCf, Fit]
theorem small17_may (g k : Nat) : MayC (smallCf g k) := mayC rfl
theorem small17_p1 (g k : Nat) : pagesOut (smallCf g k) [20, 100, 20, 32] = (5, 0) := by kernel_rfl
theorem small17_p2 (g k : Nat) : mostOut (smallCf g k) [20] [true] = (4, 0) := by kernel_rfl
theorem small17_p3 (g k : Nat) : pagesOut (smallCf g k) [0] = (0, 3) := rfl
theorem small17_p4 (g k : Nat) : mostOut (smallCf g k) [] [] = (0, 1) := rfl
theorem small17_p5 (g k : Nat) : (if (0 : Int) < ((smallCf g k).xs.length : Int) then ((liveN (smallCf g k) [20, 100, 20] 0 : Nat) : Int) else 0) = 2 := rfl
/-- It returns two ints, and leaves all memory that was there as it was. -/
def TB (P R : Int) (w : World) (e : Ending) (w' : World) : Prop := e = .returned (.tuple #[.int .i64 P, .int .i64 R]) ∧ Below w.heap.size w w'
theorem awake_p1 (g k : Nat) (w : World) (h : (smallCf g k).Ok w w.heap.size) : Calls Try.prog 10 #[(.agg #[.int .i64 64, .int .i64 9, .slice (some ⟨g, 0, none⟩) 1 1, .slice (some ⟨k, 0, none⟩) 1 1, .int .i64 8, .int .i64 4, .int .i64 3, .int .i64 512]), .slice (some ⟨w.heap.size, 0, none⟩) 4 4] (w.alloc (.cells #[.int .i64 20, .int .i64 100, .int .i64 20, .int .i64 32] 3)) (TB 5 0 (w.alloc (.cells #[.int .i64 20, .int .i64 100, .int .i64 20, .int .i64 32] 3))) := by
  have H := needPages_any (smallCf g k) (some ⟨w.heap.size, 0, none⟩) 4 4 [20, 100, 20, 32] _ (h.on (below1 w (.cells #[.int .i64 20, .int .i64 100, .int .i64 20, .int .i64 32] 3))) (small17_may g k) (ints_lit w [20, 100, 20, 32] _ 3 rfl (by simp) (fit_list (by decide))) (by omega)
  unfold PagesEnd at H
  rw [small17_p1] at H
  exact H
theorem awake_p3 (g k : Nat) (w : World) (h : (smallCf g k).Ok w w.heap.size) : Calls Try.prog 10 #[(.agg #[.int .i64 64, .int .i64 9, .slice (some ⟨g, 0, none⟩) 1 1, .slice (some ⟨k, 0, none⟩) 1 1, .int .i64 8, .int .i64 4, .int .i64 3, .int .i64 512]), .slice (some ⟨w.heap.size, 0, none⟩) 1 1] (w.alloc (.cells #[.int .i64 0] 3)) (TB 0 3 (w.alloc (.cells #[.int .i64 0] 3))) := by
  have H := needPages_any (smallCf g k) (some ⟨w.heap.size, 0, none⟩) 1 1 [0] _ (h.on (below1 w (.cells #[.int .i64 0] 3))) (small17_may g k) (ints_lit w [0] _ 3 rfl (by simp) (fit_list (by decide))) (by omega)
  unfold PagesEnd at H
  rw [small17_p3] at H
  exact H
theorem awake_p2 (g k : Nat) (w : World) (h : (smallCf g k).Ok w w.heap.size) : Calls Try.prog 12 #[(.agg #[.int .i64 64, .int .i64 9, .slice (some ⟨g, 0, none⟩) 1 1, .slice (some ⟨k, 0, none⟩) 1 1, .int .i64 8, .int .i64 4, .int .i64 3, .int .i64 512]), .slice (some ⟨w.heap.size, 0, none⟩) 1 1, .slice (some ⟨w.heap.size + 1, 0, none⟩) 1 1] ((w.alloc (.cells #[.int .i64 20] 3)).alloc (.cells #[.bool true] 4)) (TB 4 0 ((w.alloc (.cells #[.int .i64 20] 3)).alloc (.cells #[.bool true] 4))) := by
  have hs : (w.alloc (.cells #[.int .i64 20] 3)).heap.size = w.heap.size + 1 := by simp
  have hb := bools_lit (w.alloc (.cells #[.int .i64 20] 3)) [true] #[.bool true] 4 rfl (by simp)
  rw [hs] at hb
  have hi := (ints_lit w [20] #[.int .i64 20] 3 rfl (by simp) (fit_list (by decide))).on (below1 _ (.cells #[.bool true] 4))
  have H := needMost_any (smallCf g k) (some ⟨w.heap.size, 0, none⟩) 1 1 [20] (some ⟨w.heap.size + 1, 0, none⟩) 1 1 [true] _ (h.on (below2 w (.cells #[.int .i64 20] 3) (.cells #[.bool true] 4))) (small17_may g k) hi (by omega) hb
  unfold MostEnd at H
  rw [small17_p2] at H
  exact H
theorem awake_p4 (g k : Nat) (w : World) (h : (smallCf g k).Ok w w.heap.size) : Calls Try.prog 12 #[(.agg #[.int .i64 64, .int .i64 9, .slice (some ⟨g, 0, none⟩) 1 1, .slice (some ⟨k, 0, none⟩) 1 1, .int .i64 8, .int .i64 4, .int .i64 3, .int .i64 512]), .slice none 0 0, .slice none 0 0] w (TB 0 1 w) := by
  have H := needMost_any (smallCf g k) none 0 0 [] none 0 0 [] w h (small17_may g k) ⟨rfl, by omega, (fun _ hx => by cases hx), fun h0 => absurd h0 (by omega)⟩ (by omega) ⟨rfl, by omega, fun h0 => absurd h0 (by omega)⟩
  unfold MostEnd at H
  rw [small17_p4] at H
  exact H
theorem awake_p5 (g k : Nat) (w : World) (h : (smallCf g k).Ok w w.heap.size) : Calls Try.prog 14 #[(.agg #[.int .i64 64, .int .i64 9, .slice (some ⟨g, 0, none⟩) 1 1, .slice (some ⟨k, 0, none⟩) 1 1, .int .i64 8, .int .i64 4, .int .i64 3, .int .i64 512]), .slice (some ⟨w.heap.size, 0, none⟩) 3 3, .int .i64 0] (w.alloc (.cells #[.int .i64 20, .int .i64 100, .int .i64 20] 3)) (IB 2 (w.alloc (.cells #[.int .i64 20, .int .i64 100, .int .i64 20] 3))) := by
  have H := needLive_any (smallCf g k) (some ⟨w.heap.size, 0, none⟩) 3 3 [20, 100, 20] 0 _ (h.on (below1 w (.cells #[.int .i64 20, .int .i64 100, .int .i64 20] 3))) (small17_may g k) (ints_lit w [20, 100, 20] _ 3 rfl (by simp) (fit_list (by decide))) (by omega)
  rw [small17_p5] at H
  exact H

set_option maxRecDepth 20000 in
set_option maxHeartbeats 2000000 in
theorem awake17_any (w : World) : Calls Try.prog 8 #[] w (BB true w) := by
  go_enter Try.func8, Try.ntmps8
  go_wp2_with fail
  refine (small17_any _).mono ?_
  rintro e w1 ⟨g, k, rfl, O1, f1⟩
  have H := Lib.hid (awake_p1 g k w1 O1)
  have B1 := Lib.hid (f1.trans ((below1 w1 (.cells #[.int .i64 20, .int .i64 100, .int .i64 20, .int .i64 32] 3)).mono f1.size))
  clear O1 f1
  go_wp2_with fail
  refine H.out.mono ?_
  rintro e w2 ⟨rfl, f2⟩
  have B2 := Lib.hid (belowT B1.out f2)
  clear f2 H B1
  go_wp2_with fail
  refine (small17_any _).mono ?_
  rintro e w3 ⟨g3, k3, rfl, O3, f3⟩
  have H := Lib.hid (awake_p2 g3 k3 w3 O3)
  have f3' := belowT B2.out f3
  have B3 := Lib.hid (f3'.trans ((below2 w3 (.cells #[.int .i64 20] 3) (.cells #[.bool true] 4)).mono f3'.size))
  clear O3 f3 f3' B2
  go_wp2_with fail
  refine H.out.mono ?_
  rintro e w4 ⟨rfl, f4⟩
  have B4 := Lib.hid (belowT B3.out f4)
  clear f4 H B3
  go_wp2_with fail
  refine (small17_any _).mono ?_
  rintro e w5 ⟨g5, k5, rfl, O5, f5⟩
  have H := Lib.hid (awake_p3 g5 k5 w5 O5)
  have f5' := belowT B4.out f5
  have B5 := Lib.hid (f5'.trans ((below1 w5 (.cells #[.int .i64 0] 3)).mono f5'.size))
  clear O5 f5 f5' B4
  go_wp2_with fail
  refine H.out.mono ?_
  rintro e w6 ⟨rfl, f6⟩
  have B6 := Lib.hid (belowT B5.out f6)
  clear f6 H B5
  go_wp2_with fail
  refine (small17_any _).mono ?_
  rintro e w7 ⟨g7, k7, rfl, O7, f7⟩
  have H := Lib.hid (awake_p4 g7 k7 w7 O7)
  have B7 := Lib.hid (belowT B6.out f7)
  clear O7 f7 B6
  go_wp2_with fail
  refine H.out.mono ?_
  rintro e w8 ⟨rfl, f8⟩
  have B8 := Lib.hid (belowT B7.out f8)
  clear f8 H B7
  go_wp2_with fail
  refine (small17_any _).mono ?_
  rintro e w9 ⟨g9, k9, rfl, O9, f9⟩
  have H := Lib.hid (awake_p5 g9 k9 w9 O9)
  have f9' := belowT B8.out f9
  have B9 := Lib.hid (f9'.trans ((below1 w9 (.cells #[.int .i64 20, .int .i64 100, .int .i64 20] 3)).mono f9'.size))
  clear O9 f9 f9' B8
  go_wp2_with fail
  refine H.out.mono ?_
  rintro e w10 ⟨rfl, f10⟩
  have B10 := Lib.hid (belowT B9.out f10)
  clear f10 H B9
  go_wp2
  go_ret
  exact ⟨rfl, B10.out⟩
end Go.Proofs.Ytkcdehnpkephgaa
