/-
  The law's own 'awake' of package proxy: it returns true, and leaves all memory that was there as it was.
-/
import Derived.Test.YtelhhhmmkdbagaaDoorProxyNew
namespace Go.Proofs.YtelhhhmmkdbagaaDoor
open Go.ChangeShapes Go.WideShapes Go.ChangeAt Go.RowKit

set_option maxRecDepth 20000 in
set_option maxHeartbeats 1000000 in
theorem awake10_any (w : World) (hb : Bd w) : Calls Tryd.prog 8 #[] w (BB true w) := by
  have HN : Hid (Calls Tryd.prog 15 #[.int .i64 1, .int .i64 2] w fun e w' => ∃ p a, e = .returned (.tuple #[.pointer (some ⟨p, 0, none⟩), .int .i64 0]) ∧ Tm w' p a 1 2 ⟨[1], [false], [0]⟩ ∧ Below w.heap.size w w' ∧ w.heap.size ≤ p ∧ w.heap.size ≤ a) :=
    Lib.hid (new_ok 1 2 w (by omega) (by omega) (by omega) (by omega) hb)
  clear hb
  go_enter Tryd.func8, Tryd.ntmps8
  go_wp2_with fail
  refine HN.out.mono ?_
  rintro e w1 ⟨p, a, rfl, r1, b1, hp, ha⟩
  have B0 := Lib.hid b1
  have HP := Lib.hid hp
  have HA := Lib.hid ha
  have B1 : Hid (But (Own p a) w1 w1) := Lib.hid (But.refl _ _)
  clear b1 hp ha HN
  have H1 : Hid (Calls Tryd.prog 17 #[.pointer (some ⟨p, 0, none⟩)] w1 (TakeEnds p a 1 2 (⟨[1], [true], []⟩, 4096, 0, 0) w1)) := Lib.hid (take_any r1)
  clear r1
  go_wp2_with fail
  refine H1.out.mono ?_
  rintro e w2 ⟨rfl, r2, b2⟩
  have B2 := Lib.hid (B1.out.trans b2)
  clear b2 H1 B1
  have H2 : Hid (Calls Tryd.prog 10 #[.pointer (some ⟨p, 0, none⟩), .int .i64 4096] w2 (P2 0 0 w2)) := Lib.hid (look_any r2 (by omega) (by omega))
  have R2 := Lib.hid r2
  clear r2
  go_wp2_with fail
  refine H2.out.mono ?_
  rintro e w3 ⟨rfl, b3⟩
  have r3 := R2.out.below b3
  have B3 := Lib.hid (B2.out.trans (Below.but b3 (Own p a)))
  clear b3 H2 B2 R2
  have H3 : Hid (Calls Tryd.prog 18 #[.pointer (some ⟨p, 0, none⟩), .int .i64 4096] w3 (GiveEnds p a 1 2 (⟨[2], [false], [0]⟩, 0) w3)) := Lib.hid (give_any r3 (by omega) (by omega))
  clear r3
  go_wp2_with fail
  refine H3.out.mono ?_
  rintro e w4 ⟨rfl, r4, b4⟩
  have B4 := Lib.hid (B3.out.trans b4)
  clear b4 H3 B3
  have H4 : Hid (Calls Tryd.prog 10 #[.pointer (some ⟨p, 0, none⟩), .int .i64 4096] w4 (P2 0 6 w4)) := Lib.hid (look_any r4 (by omega) (by omega))
  have R4 := Lib.hid r4
  clear r4
  go_wp2_with fail
  refine H4.out.mono ?_
  rintro e w5 ⟨rfl, b5⟩
  have r5 := R4.out.below b5
  have B5 := Lib.hid (B4.out.trans (Below.but b5 (Own p a)))
  clear b5 H4 B4 R4
  have H5 : Hid (Calls Tryd.prog 17 #[.pointer (some ⟨p, 0, none⟩)] w5 (TakeEnds p a 1 2 (⟨[2], [true], []⟩, 8192, 0, 0) w5)) := Lib.hid (take_any r5)
  clear r5
  go_wp2_with fail
  refine H5.out.mono ?_
  rintro e w6 ⟨rfl, r6, b6⟩
  have B6 := Lib.hid (B5.out.trans b6)
  clear b6 H5 B5
  have H6 : Hid (Calls Tryd.prog 18 #[.pointer (some ⟨p, 0, none⟩), .int .i64 8192] w6 (GiveEnds p a 1 2 (⟨[3], [false], []⟩, 0) w6)) := Lib.hid (give_any r6 (by omega) (by omega))
  clear r6
  go_wp2_with fail
  refine H6.out.mono ?_
  rintro e w7 ⟨rfl, r7, b7⟩
  have B7 := Lib.hid (B6.out.trans b7)
  clear b7 H6 B6
  have H7 : Hid (Calls Tryd.prog 17 #[.pointer (some ⟨p, 0, none⟩)] w7 (TakeEnds p a 1 2 (⟨[3], [false], []⟩, 0, 0, 4) w7)) := Lib.hid (take_any r7)
  clear r7
  go_wp2_with fail
  refine H7.out.mono ?_
  rintro e w8 ⟨rfl, r8, b8⟩
  have B8 := Lib.hid (B7.out.trans b8)
  clear b8 H7 B7
  have H8 : Hid (Calls Tryd.prog 10 #[.pointer (some ⟨p, 0, none⟩), .int .i64 5] w8 (P2 0 7 w8)) := Lib.hid (look_any r8 (by omega) (by omega))
  have R8 := Lib.hid r8
  clear r8
  go_wp2_with fail
  refine H8.out.mono ?_
  rintro e w9 ⟨rfl, b9⟩
  have r9 := R8.out.below b9
  have B9 := Lib.hid (B8.out.trans (Below.but b9 (Own p a)))
  clear b9 H8 B8 R8
  have K1 : Hid (Calls Tryd.prog 12 #[.pointer (some ⟨p, 0, none⟩)] w9 (R1 0 w9)) := Lib.hid (left_any r9)
  have K2 : Hid (Calls Tryd.prog 13 #[.pointer (some ⟨p, 0, none⟩)] w9 (R1 0 w9)) := Lib.hid (live_any r9)
  clear r9
  go_wp2_with fail
  refine K1.out.mono ?_
  rintro e w' ⟨rfl, rfl⟩
  go_wp2_with fail
  refine K2.out.mono ?_
  rintro e w' ⟨rfl, rfl⟩
  go_wp2
  go_ret
  exact ⟨rfl, B0.out.trans (Own.below B9.out B0.out.size HP.out HA.out)⟩
end Go.Proofs.YtelhhhmmkdbagaaDoor
