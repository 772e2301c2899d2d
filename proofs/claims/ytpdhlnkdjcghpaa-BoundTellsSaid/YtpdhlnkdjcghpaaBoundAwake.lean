/-
  The laws' common beginning (almerylaw18.awake), met by a contract: a small thing, and a large one, in a small layout; it returns true, and leaves all memory that was there as it was.
-/
import Derived.Test.YtpdhlnkdjcghpaaBoundResize
import Derived.Test.YtpdhlnkdjcghpaaBoundRead
import Derived.Test.YtpdhlnkdjcghpaaBoundTick
namespace Go.Proofs.Ytpdhlnkdjcghpaa
open Go.ChangeShapes Go.WideShapes Go.ChangeAt Go.RowKit

/-- The small layout, its lists in blocks g and k. -/
def smallCf (g k : Nat) : Cf := ⟨64, 9, some ⟨g, 0, none⟩, 1, 1, some ⟨k, 0, none⟩, 1, 1, 8, 4, 3, 512, [32], [2]⟩
theorem small18_any (w : World) : Calls Try.prog 16 #[] w fun e w' =>
    ∃ g k : Nat, e = .returned (.agg #[.int .i64 64, .int .i64 9, .slice (some ⟨g, 0, none⟩) 1 1, .slice (some ⟨k, 0, none⟩) 1 1, .int .i64 8, .int .i64 4, .int .i64 3, .int .i64 512]) ∧ (smallCf g k).Ok w' w'.heap.size ∧ Below w.heap.size w w' := by
  have H : Calls Try.prog 16 #[] w fun e w' =>
      e = .returned (.agg #[.int .i64 64, .int .i64 9, .slice (some ⟨w.heap.size + 1, 0, none⟩) 1 1, .slice (some ⟨w.heap.size + 1 + 1, 0, none⟩) 1 1, .int .i64 8, .int .i64 4, .int .i64 3, .int .i64 512]) ∧
      w' = ((w.alloc (.cells #[.int .i64 64, .int .i64 9, .slice (some ⟨w.heap.size + 1, 0, none⟩) 1 1, .slice (some ⟨w.heap.size + 1 + 1, 0, none⟩) 1 1, .int .i64 8, .int .i64 4, .int .i64 3, .int .i64 512] 24)).alloc (.cells #[.int .i64 32] 3)).alloc (.cells #[.int .i64 2] 3) := by
    go_enter Try.func16, Try.ntmps16
    go_wp2
    exact bodyPost_ret (v := .agg #[.int .i64 64, .int .i64 9, .slice (some ⟨w.heap.size + 1, 0, none⟩) 1 1, .slice (some ⟨w.heap.size + 1 + 1, 0, none⟩) 1 1, .int .i64 8, .int .i64 4, .int .i64 3, .int .i64 512]) (by simp [results, Try.results16, go_sem]) rfl ⟨rfl, rfl⟩
  refine H.mono ?_
  rintro e w' ⟨rfl, rfl⟩
  generalize (Obj.cells #[.int .i64 64, .int .i64 9, .slice (some ⟨w.heap.size + 1, 0, none⟩) 1 1, .slice (some ⟨w.heap.size + 1 + 1, 0, none⟩) 1 1, .int .i64 8, .int .i64 4, .int .i64 3, .int .i64 512] 24) = o
  have h1 : (w.alloc o).heap.size = w.heap.size + 1 := by simp
  have h2 : ((w.alloc o).alloc (.cells #[.int .i64 32] 3)).heap.size = w.heap.size + 1 + 1 := by simp
  have i1 := ints_lit (w.alloc o) [32] #[.int .i64 32] 3 rfl (by simp) (fit_list (by decide))
  have i2 := ints_lit ((w.alloc o).alloc (.cells #[.int .i64 32] 3)) [2] #[.int .i64 2] 3 rfl (by simp) (fit_list (by decide))
  rw [h1] at i1
  rw [h2] at i2
  have i1' := i1.on (below1 _ (.cells #[.int .i64 2] 3))
  have b1 := below1 w o
  have b2 := (b1.alloc b1.size (.cells #[.int .i64 32] 3))
  have b3 := (b2.alloc b2.size (.cells #[.int .i64 2] 3))
  refine ⟨_, _, rfl, ⟨i1', i2, ?_, ?_, ?_, ?_, ?_, ?_⟩, b3⟩ <;> simp [smallCf, Fit]
theorem small18_may (g k : Nat) : MayC (smallCf g k) := mayC rfl
section
variable {g k : Nat} {v : World}
theorem aw0 (h : (smallCf g k).Ok v v.heap.size) : Calls Try.prog 7 #[(.agg #[.int .i64 64, .int .i64 9, .slice (some ⟨g, 0, none⟩) 1 1, .slice (some ⟨k, 0, none⟩) 1 1, .int .i64 8, .int .i64 4, .int .i64 3, .int .i64 512]), .int .i64 20] v (IB 41 v) := by
  have H := alloc_any (s := 20) h (small18_may g k) (by unfold Fit; omega)
  rw [show allocB (smallCf g k) 20 = 41 by kernel_rfl] at H
  exact H
theorem aw1 (h : (smallCf g k).Ok v v.heap.size) : Calls Try.prog 7 #[(.agg #[.int .i64 64, .int .i64 9, .slice (some ⟨g, 0, none⟩) 1 1, .slice (some ⟨k, 0, none⟩) 1 1, .int .i64 8, .int .i64 4, .int .i64 3, .int .i64 512]), .int .i64 65] v (IB 146 v) := by
  have H := alloc_any (s := 65) h (small18_may g k) (by unfold Fit; omega)
  rw [show allocB (smallCf g k) 65 = 146 by kernel_rfl] at H
  exact H
theorem aw2 (h : (smallCf g k).Ok v v.heap.size) : Calls Try.prog 9 #[(.agg #[.int .i64 64, .int .i64 9, .slice (some ⟨g, 0, none⟩) 1 1, .slice (some ⟨k, 0, none⟩) 1 1, .int .i64 8, .int .i64 4, .int .i64 3, .int .i64 512]), .int .i64 20] v (IB 67 v) := by
  have H := free_any (s := 20) h (small18_may g k) (by unfold Fit; omega)
  rw [show freeB (smallCf g k) 20 = 67 by kernel_rfl] at H
  exact H
theorem aw3 (h : (smallCf g k).Ok v v.heap.size) : Calls Try.prog 9 #[(.agg #[.int .i64 64, .int .i64 9, .slice (some ⟨g, 0, none⟩) 1 1, .slice (some ⟨k, 0, none⟩) 1 1, .int .i64 8, .int .i64 4, .int .i64 3, .int .i64 512]), .int .i64 513] v (IB 0 v) := by
  have H := free_any (s := 513) h (small18_may g k) (by unfold Fit; omega)
  rw [show freeB (smallCf g k) 513 = 0 by kernel_rfl] at H
  exact H
theorem aw4 (h : (smallCf g k).Ok v v.heap.size) : Calls Try.prog 13 #[(.agg #[.int .i64 64, .int .i64 9, .slice (some ⟨g, 0, none⟩) 1 1, .slice (some ⟨k, 0, none⟩) 1 1, .int .i64 8, .int .i64 4, .int .i64 3, .int .i64 512]), .int .i64 20, .int .i64 5] v (IB 6 v) := by
  have H := read_any (s := 20) (n := 5) h (small18_may g k) (by unfold Fit; omega)
  rw [show readB (smallCf g k) 20 5 = 6 by kernel_rfl] at H
  exact H
theorem aw5 (h : (smallCf g k).Ok v v.heap.size) : Calls Try.prog 14 #[(.agg #[.int .i64 64, .int .i64 9, .slice (some ⟨g, 0, none⟩) 1 1, .slice (some ⟨k, 0, none⟩) 1 1, .int .i64 8, .int .i64 4, .int .i64 3, .int .i64 512]), .int .i64 100, .int .i64 5] v (IB 13 v) := by
  have H := write_any (s := 100) (n := 5) h (small18_may g k) (by unfold Fit; omega)
  rw [show writeB (smallCf g k) 100 5 = 13 by kernel_rfl] at H
  exact H
theorem aw6 (h : (smallCf g k).Ok v v.heap.size) : Calls Try.prog 11 #[(.agg #[.int .i64 64, .int .i64 9, .slice (some ⟨g, 0, none⟩) 1 1, .slice (some ⟨k, 0, none⟩) 1 1, .int .i64 8, .int .i64 4, .int .i64 3, .int .i64 512])] v (IB 18 v) := by
  have H := tick_any h (small18_may g k)
  rw [show tickB (smallCf g k)  = 18 by kernel_rfl] at H
  exact H
theorem aw7 (h : (smallCf g k).Ok v v.heap.size) : Calls Try.prog 15 #[(.agg #[.int .i64 64, .int .i64 9, .slice (some ⟨g, 0, none⟩) 1 1, .slice (some ⟨k, 0, none⟩) 1 1, .int .i64 8, .int .i64 4, .int .i64 3, .int .i64 512]), .int .i64 20, .int .i64 0] v (IB 0 v) := by
  have H := resize_any (o := 20) (s := 0) h (small18_may g k) (by unfold Fit; omega) (by unfold Fit; omega)
  rw [show resizeB (smallCf g k) 20 0 = 0 by kernel_rfl] at H
  exact H
end
set_option maxRecDepth 20000 in
set_option maxHeartbeats 2000000 in
theorem awake18_any (w : World) : Calls Try.prog 5 #[] w (BB true w) := by
  go_enter Try.func5, Try.ntmps5
  go_wp2_with fail
  refine (small18_any _).mono ?_
  rintro e w0 ⟨g, k, rfl, O0, f0⟩
  have X := Boxed.new w0 (smallCf g k)
  have b := Lib.hid (belowT f0 (below1 w0 (.cells #[.int .i64 64, .int .i64 9, .slice (some ⟨g, 0, none⟩) 1 1, .slice (some ⟨k, 0, none⟩) 1 1, .int .i64 8, .int .i64 4, .int .i64 3, .int .i64 512] 24)))
  have O := Lib.hid (O0.on (below1 w0 (.cells #[.int .i64 64, .int .i64 9, .slice (some ⟨g, 0, none⟩) 1 1, .slice (some ⟨k, 0, none⟩) 1 1, .int .i64 8, .int .i64 4, .int .i64 3, .int .i64 512] 24)))
  clear O0 f0
  have H := Lib.hid (aw0 O.out)
  go_wp2_with fail
  refine H.out.mono ?_
  rintro e w1 ⟨rfl, f⟩
  have X2 := X.on f
  have b2 := Lib.hid (belowT b.out f)
  have O2 := Lib.hid (O.out.on f)
  clear X b O f H
  have X := X2
  have b := b2
  have O := O2
  clear X2 b2 O2
  have ⟨x0, x1, x2, x3, x4, x5, x6, x7, x8⟩ := X
  simp only [smallCf] at x0 x1 x2 x3 x4 x5 x6 x7
  have H := Lib.hid (aw1 O.out)
  go_wp2_with fail
  refine H.out.mono ?_
  rintro e w2 ⟨rfl, f⟩
  have X2 := X.on f
  have b2 := Lib.hid (belowT b.out f)
  have O2 := Lib.hid (O.out.on f)
  clear X b O f H x0 x1 x2 x3 x4 x5 x6 x7 x8
  have X := X2
  have b := b2
  have O := O2
  clear X2 b2 O2
  have ⟨x0, x1, x2, x3, x4, x5, x6, x7, x8⟩ := X
  simp only [smallCf] at x0 x1 x2 x3 x4 x5 x6 x7
  have H := Lib.hid (aw2 O.out)
  go_wp2_with fail
  refine H.out.mono ?_
  rintro e w3 ⟨rfl, f⟩
  have X2 := X.on f
  have b2 := Lib.hid (belowT b.out f)
  have O2 := Lib.hid (O.out.on f)
  clear X b O f H x0 x1 x2 x3 x4 x5 x6 x7 x8
  have X := X2
  have b := b2
  have O := O2
  clear X2 b2 O2
  have ⟨x0, x1, x2, x3, x4, x5, x6, x7, x8⟩ := X
  simp only [smallCf] at x0 x1 x2 x3 x4 x5 x6 x7
  have H := Lib.hid (aw3 O.out)
  go_wp2_with fail
  refine H.out.mono ?_
  rintro e w4 ⟨rfl, f⟩
  have X2 := X.on f
  have b2 := Lib.hid (belowT b.out f)
  have O2 := Lib.hid (O.out.on f)
  clear X b O f H x0 x1 x2 x3 x4 x5 x6 x7 x8
  have X := X2
  have b := b2
  have O := O2
  clear X2 b2 O2
  have ⟨x0, x1, x2, x3, x4, x5, x6, x7, x8⟩ := X
  simp only [smallCf] at x0 x1 x2 x3 x4 x5 x6 x7
  have H := Lib.hid (aw4 O.out)
  go_wp2_with fail
  refine H.out.mono ?_
  rintro e w5 ⟨rfl, f⟩
  have X2 := X.on f
  have b2 := Lib.hid (belowT b.out f)
  have O2 := Lib.hid (O.out.on f)
  clear X b O f H x0 x1 x2 x3 x4 x5 x6 x7 x8
  have X := X2
  have b := b2
  have O := O2
  clear X2 b2 O2
  have ⟨x0, x1, x2, x3, x4, x5, x6, x7, x8⟩ := X
  simp only [smallCf] at x0 x1 x2 x3 x4 x5 x6 x7
  have H := Lib.hid (aw5 O.out)
  go_wp2_with fail
  refine H.out.mono ?_
  rintro e w6 ⟨rfl, f⟩
  have X2 := X.on f
  have b2 := Lib.hid (belowT b.out f)
  have O2 := Lib.hid (O.out.on f)
  clear X b O f H x0 x1 x2 x3 x4 x5 x6 x7 x8
  have X := X2
  have b := b2
  have O := O2
  clear X2 b2 O2
  have ⟨x0, x1, x2, x3, x4, x5, x6, x7, x8⟩ := X
  simp only [smallCf] at x0 x1 x2 x3 x4 x5 x6 x7
  have H := Lib.hid (aw6 O.out)
  go_wp2_with fail
  refine H.out.mono ?_
  rintro e w7 ⟨rfl, f⟩
  have X2 := X.on f
  have b2 := Lib.hid (belowT b.out f)
  have O2 := Lib.hid (O.out.on f)
  clear X b O f H x0 x1 x2 x3 x4 x5 x6 x7 x8
  have X := X2
  have b := b2
  have O := O2
  clear X2 b2 O2
  have ⟨x0, x1, x2, x3, x4, x5, x6, x7, x8⟩ := X
  simp only [smallCf] at x0 x1 x2 x3 x4 x5 x6 x7
  have H := Lib.hid (aw7 O.out)
  go_wp2_with fail
  refine H.out.mono ?_
  rintro e w8 ⟨rfl, f⟩
  have BF := Lib.hid (belowT b.out f)
  clear X b O f H x0 x1 x2 x3 x4 x5 x6 x7 x8
  go_wp2
  go_ret
  exact ⟨rfl, BF.out⟩
end Go.Proofs.Ytpdhlnkdjcghpaa
