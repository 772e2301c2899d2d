/-
  almerylaw05.awake returns true, and leaves all memory that was there as it was.
-/
import Derived.Test.YtiajhogecckceaaMeter
namespace Go.Proofs.Ytiajhogecckceaa
open Go.ChangeShapes Go.WideShapes Go.ChangeAt Go.RowKit

theorem awake05_any (w : World) : Calls Try.prog 8 #[] w (BB true w) := by
  have e1 : more 0 3 = 3 := by decide
  have e2 : more 3 4 = 7 := by decide
  have e3 : more 7 (-1) = 7 := by decide
  have E1 := Lib.hid e1
  have E2 := Lib.hid e2
  have E3 := Lib.hid e3
  clear e1 e2 e3
  go_enter Try.func8, Try.ntmps8
  go_wp2_with fail
  refine (new_any w).mono ?_
  rintro e w1 ⟨rfl, m1, b1, s1⟩
  go_wp2_with fail
  refine (charge_any _ _ _ 3 w1 m1).mono ?_
  rw [E1.out]
  rintro e w2 ⟨rfl, m2, b2⟩
  have B2 := b1.trans (b2.one b1.size (Nat.le_refl _))
  clear m1 b1 b2 s1
  go_wp2_with fail
  refine (lap_any _ _ _ w2 m2).mono ?_
  rintro e w3 ⟨rfl, m3, b3⟩
  have B3 := B2.trans (b3.one B2.size (Nat.le_refl _))
  clear m2 B2 b3
  go_wp2_with fail
  refine (charge_any _ _ _ 4 w3 m3).mono ?_
  rw [E2.out]
  rintro e w4 ⟨rfl, m4, b4⟩
  have B4 := B3.trans (b4.one B3.size (Nat.le_refl _))
  clear m3 B3 b4
  go_wp2_with fail
  refine (charge_any _ _ _ (-1) w4 m4).mono ?_
  rw [E3.out]
  rintro e w5 ⟨rfl, m5, b5⟩
  have B5 := B4.trans (b5.one B4.size (Nat.le_refl _))
  clear m4 B4 b5
  go_wp2_with fail
  refine (total_any _ _ _ w5 m5).mono ?_
  rintro e w6 ⟨rfl, rfl⟩
  go_wp2_with fail
  refine (lap_any _ _ _ w5 m5).mono ?_
  rintro e w7 ⟨rfl, m7, b7⟩
  have B7 := B5.trans (b7.one B5.size (Nat.le_refl _))
  clear m5 B5 b7
  go_wp2_with fail
  refine (lap_any _ _ _ w7 m7).mono ?_
  rintro e w8 ⟨rfl, m8, b8⟩
  have B8 := B7.trans (b8.one B7.size (Nat.le_refl _))
  go_wp2
  go_ret
  exact ⟨rfl, B8⟩
end Go.Proofs.Ytiajhogecckceaa
