/-
  almerylaw04.awake, met by a contract: it returns true, and leaves all memory that was there as it was.
-/
import Derived.Test.YtohdhndjbpfliaaRatioSum
import Derived.Test.YtohdhndjbpfliaaRatioLeastOf
namespace Go.Proofs.Ytohdhndjbpfliaa
open Go.ChangeShapes Go.WideShapes Go.ChangeAt Go.RowKit

theorem floats_lit (w : World) (xs : List Nat) (t : TypeId) (hm : xs.length ≤ 9223372036854775807) (hx : ∀ x ∈ xs, x < 18446744073709551616) :
    Floats (w.alloc (.cells (xs.map (Value.float .f64)).toArray t)) (w.alloc (.cells (xs.map (Value.float .f64)).toArray t)).heap.size (some ⟨w.heap.size, 0, none⟩) xs.length xs := by
  refine ⟨rfl, hm, hx, fun _ => ⟨w.heap.size, 0, rfl, by simp, fun k s hs => ?_⟩⟩
  rw [Nat.zero_add]
  simp [hs]
theorem floats3 (w : World) (x y z : Nat) (t : TypeId) {g : Nat} (hg : g = w.heap.size) (hx : x < 18446744073709551616) (hy : y < 18446744073709551616) (hz : z < 18446744073709551616) :
    Floats (w.alloc (.cells #[.float .f64 x, .float .f64 y, .float .f64 z] t)) (w.alloc (.cells #[.float .f64 x, .float .f64 y, .float .f64 z] t)).heap.size (some ⟨g, 0, none⟩) 3 [x, y, z] := by
  subst hg
  exact floats_lit w [x, y, z] t (by simp) (by simp [hx, hy, hz])
theorem floats2 (w : World) (x y : Nat) (t : TypeId) {g : Nat} (hg : g = w.heap.size) (hx : x < 18446744073709551616) (hy : y < 18446744073709551616) :
    Floats (w.alloc (.cells #[.float .f64 x, .float .f64 y] t)) (w.alloc (.cells #[.float .f64 x, .float .f64 y] t)).heap.size (some ⟨g, 0, none⟩) 2 [x, y] := by
  subst hg
  exact floats_lit w [x, y] t (by simp) (by simp [hx, hy])

theorem aw_p1 : part 1 0 = some 9218868437227405312 := by decide +kernel
theorem aw_p2 : part 0 0 = none := by decide +kernel
theorem aw_t1 : (FloatKind.f64.format.order 9218868437227405312 4652007308841189376 == some .gt) = true := by decide +kernel
theorem aw_b1 : below 13830554455654793216 0 = true := by decide +kernel
theorem aw_b2 : below 0 13830554455654793216 = false := by decide +kernel
theorem aw_l1 : leastL [4613937818241073152, 13835058055282163712, 4617315517961601024] = 13835058055282163712 := by decide +kernel
theorem aw_t2 : (FloatKind.f64.format.order 13835058055282163712 13835058055282163712 == some .eq) = true := by decide +kernel
theorem aw_s1 : sumO [4607182418800017408, 4611686018427387904, 4616189618054758400] = some 4619567317775286272 := by decide +kernel
theorem aw_t3 : (FloatKind.f64.format.order 4619567317775286272 4619567317775286272 == some .eq) = true := by decide +kernel
theorem aw_m1 : meanO [4607182418800017408, 4611686018427387904] = some 4609434218613702656 := by decide +kernel
theorem aw_t4 : (FloatKind.f64.format.order 4609434218613702656 4609434218613702656 == some .eq) = true := by decide +kernel

set_option maxHeartbeats 1600000 in
theorem awake04_any (w : World) : Calls Try.prog 8 #[] w (BB true w) := by
  have p1 := aw_p1
  have p2 := aw_p2
  have P1 := part_any 1 0 w
  rw [p1] at P1
  have t1 := aw_t1
  have b1 := aw_b1
  have b2 := aw_b2
  have l1 := aw_l1
  have t2 := aw_t2
  have s1 := aw_s1
  have t3 := aw_t3
  have m1 := aw_m1
  have t4 := aw_t4
  have H1 := Lib.hid P1
  have HP2 := Lib.hid p2
  have HB1 := Lib.hid b1
  have HB2 := Lib.hid b2
  have HL1 := Lib.hid l1
  have HS1 := Lib.hid s1
  have HM1 := Lib.hid m1
  clear P1 p1 p2 b1 b2 l1 s1 m1
  go_enter Try.func8, Try.ntmps8
  go_wp2_with fail
  refine H1.out.mono ?_
  rintro e w' ⟨v, rfl, ⟨_, rfl, _⟩, d1, rfl⟩
  go_wp2_with fail
  refine (part_any 0 0 _).mono ?_
  rintro e w' ⟨v, rfl, hv, d2, rfl⟩
  rw [HP2.out] at hv
  have hv1 : (FloatKind.f64.format.order v v != some .eq) = true := by rw [selfN]; exact hv.2
  have b3 : below 9218868437227405312 v = true := below_nan2 (by decide) hv.2
  have HB3 := Lib.hid b3
  clear b3
  go_wp2_with fail
  refine (below_any 13830554455654793216 0 _).mono ?_
  rw [HB1.out]
  rintro e w' ⟨rfl, rfl⟩
  go_wp2_with fail
  refine (below_any 0 13830554455654793216 _).mono ?_
  rw [HB2.out]
  rintro e w' ⟨rfl, rfl⟩
  go_wp2_with fail
  refine (below_any 9218868437227405312 v _).mono ?_
  rw [HB3.out]
  rintro e w' ⟨rfl, rfl⟩
  go_wp2_with fail
  refine (least_any _ 3 3 [4613937818241073152, 13835058055282163712, 4617315517961601024] _ _ (floats3 _ _ _ _ _ (by simp) (by omega) (by omega) (by omega)) (by omega)).mono ?_
  rw [HL1.out]
  rintro e w' ⟨rfl, d3, rfl⟩
  go_wp2_with fail
  refine (sum_any _ 3 3 [4607182418800017408, 4611686018427387904, 4616189618054758400] _ (floats3 _ _ _ _ _ (by simp) (by omega) (by omega) (by omega))).mono ?_
  rw [HS1.out]
  rintro e w1 ⟨v1, rfl, ⟨_, rfl, _⟩, hb1⟩
  go_wp2_with fail
  refine (mean_any _ 2 2 [4607182418800017408, 4611686018427387904] _ (floats2 _ _ _ _ (by simp) (by omega) (by omega))).mono ?_
  rw [HM1.out]
  rintro e w2 ⟨v2, rfl, ⟨_, rfl, _⟩, hb2⟩
  go_wp2
  go_ret
  exact ⟨rfl, belowT (belowT (belowT (belowT (belowN (belowT (belowN (Below.refl _ _) _) (below1 _ _)) d3) (below1 _ _)) hb1) (below1 _ _)) hb2⟩
end Go.Proofs.Ytohdhndjbpfliaa
