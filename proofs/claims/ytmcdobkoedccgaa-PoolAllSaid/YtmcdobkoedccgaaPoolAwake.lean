/-
  The law's own 'awake' of package pool: it returns true, and leaves all memory that was there as it was.
-/
import Derived.Test.YtmcdobkoedccgaaPoolNew
namespace Go.Proofs.Ytmcdobkoedccgaa
open Go.ChangeShapes Go.WideShapes Go.ChangeAt Go.RowKit

set_option maxRecDepth 20000 in
set_option maxHeartbeats 1000000 in
theorem awake08_any (w : World) :
    Calls Try.prog 8 #[] w fun e w' => e = .returned (.bool true) ∧ Below w.heap.size w w' := by
  have HN : Hid (Calls Try.prog 14 #[.int .i64 3] w fun e w' => ∃ p a, e = .returned (.tuple #[.pointer (some ⟨p, 0, none⟩), .int .i64 0]) ∧ Pm w' p a 3 [-1, -1, -1] [0, 1, 2] ∧ Below w.heap.size w w' ∧ w.heap.size ≤ p ∧ w.heap.size ≤ a) :=
    Lib.hid (new_ok 3 w (by omega) (by omega))
  go_enter Try.func8, Try.ntmps8
  go_wp2_with fail
  refine HN.out.mono ?_
  rintro e w1 ⟨p, a, rfl, r1, b1, hp, ha⟩
  have B0 := Lib.hid b1
  have HP := Lib.hid hp
  have HA := Lib.hid ha
  have H1 : Hid (Calls Try.prog 16 #[.pointer (some ⟨p, 0, none⟩), .int .i64 7] w1 (TakeEnds p a 3 ([7, -1, -1], [1, 2], 0, 0) w1)) := Lib.hid (take_any r1 7 (by unfold Fit; omega))
  clear r1 b1 hp ha HN
  go_wp2_with fail
  refine H1.out.mono ?_
  rintro e w2 ⟨rfl, r2, b2⟩
  have B2 := Lib.hid b2
  have H2 : Hid (Calls Try.prog 16 #[.pointer (some ⟨p, 0, none⟩), .int .i64 8] w2 (TakeEnds p a 3 ([7, 8, -1], [2], 1, 0) w2)) := Lib.hid (take_any r2 8 (by unfold Fit; omega))
  clear r2 b2 H1
  go_wp2_with fail
  refine H2.out.mono ?_
  rintro e w3 ⟨rfl, r3, b3⟩
  have B3 := Lib.hid b3
  have H3 : Hid (Calls Try.prog 17 #[.pointer (some ⟨p, 0, none⟩), .int .i64 0] w3 (GiveEnds p a 3 ([-1, 8, -1], [0, 2], 0) w3)) := Lib.hid (give_any r3 0)
  clear r3 b3 H2
  go_wp2_with fail
  refine H3.out.mono ?_
  rintro e w4 ⟨rfl, r4, b4⟩
  have B4 := Lib.hid b4
  have H4 : Hid (Calls Try.prog 17 #[.pointer (some ⟨p, 0, none⟩), .int .i64 0] w4 (GiveEnds p a 3 ([-1, 8, -1], [0, 2], 9) w4)) := Lib.hid (give_any r4 0)
  clear r4 b4 H3
  go_wp2_with fail
  refine H4.out.mono ?_
  rintro e w5 ⟨rfl, r5, b5⟩
  have B5 := Lib.hid b5
  have H5 : Hid (Calls Try.prog 16 #[.pointer (some ⟨p, 0, none⟩), .int .i64 9] w5 (TakeEnds p a 3 ([9, 8, -1], [2], 0, 0) w5)) := Lib.hid (take_any r5 9 (by unfold Fit; omega))
  clear r5 b5 H4
  go_wp2_with fail
  refine H5.out.mono ?_
  rintro e w6 ⟨rfl, r6, b6⟩
  have B6 := Lib.hid b6
  have H6 : Hid (Calls Try.prog 16 #[.pointer (some ⟨p, 0, none⟩), .int .i64 9] w6 (TakeEnds p a 3 ([9, 8, 9], [], 2, 0) w6)) := Lib.hid (take_any r6 9 (by unfold Fit; omega))
  clear r6 b6 H5
  go_wp2_with fail
  refine H6.out.mono ?_
  rintro e w7 ⟨rfl, r7, b7⟩
  have B7 := Lib.hid b7
  have H7 : Hid (Calls Try.prog 16 #[.pointer (some ⟨p, 0, none⟩), .int .i64 9] w7 (TakeEnds p a 3 ([9, 8, 9], [], 0, 5) w7)) := Lib.hid (take_any r7 9 (by unfold Fit; omega))
  clear r7 b7 H6
  go_wp2_with fail
  refine H7.out.mono ?_
  rintro e w8 ⟨rfl, r8, b8⟩
  have B8 := Lib.hid b8
  have K1 : Hid (Calls Try.prog 10 #[.pointer (some ⟨p, 0, none⟩), .int .i64 1] w8 (R1 8 w8)) := Lib.hid (owner_any r8 1)
  have K2 : Hid (Calls Try.prog 12 #[.pointer (some ⟨p, 0, none⟩)] w8 (R1 0 w8)) := Lib.hid (free_any r8)
  have K3 : Hid (Calls Try.prog 13 #[.pointer (some ⟨p, 0, none⟩)] w8 (RQ 3 w8)) := Lib.hid (held_any r8)
  clear r8 b8 H7
  go_wp2_with fail
  refine K1.out.mono ?_
  rintro e w9 ⟨rfl, rfl⟩
  go_wp2_with fail
  refine K2.out.mono ?_
  rintro e w9 ⟨rfl, rfl⟩
  go_wp2_with fail
  refine K3.out.mono ?_
  rintro e w9 ⟨rfl, n9, rfl⟩
  go_wp2
  go_ret
  exact ⟨rfl, belowN (B0.out.trans (Own.below ((((((B2.out.trans B3.out).trans B4.out).trans B5.out).trans B6.out).trans B7.out).trans B8.out) B0.out.size HP.out HA.out)) n9⟩
end Go.Proofs.Ytmcdobkoedccgaa
