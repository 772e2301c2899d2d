/-
  awake of the laws of package ident: it returns true, and leaves all memory that was there as it was.
-/
import Derived.Test.YtodombgmjnidiaaDoorIdent
namespace Go.Proofs.YtodombgmjnidiaaDoor
open Go.ChangeShapes Go.WideShapes Go.ChangeAt Go.RowKit

theorem Bd.next {w w' : World} (h : Bd w) (b : Below w.heap.size w w') : Bd w' := h.below h.pos b

theorem awake09_any (w : World) (h : Bd w) : Calls Tryd.prog 8 #[] w (BB true w) := by
  have J1 : Hid (∀ v : World, Bd v → Calls Tryd.prog 9 #[.int .i64 2, .int .i64 1] v (P2 4098 0 v)) := Lib.hid (fun v hv => join_any 2 1 v hv)
  have J2 : Hid (∀ v : World, Bd v → Calls Tryd.prog 9 #[.int .i64 0, .int .i64 0] v (P2 0 1 v)) := Lib.hid (fun v hv => join_any 0 0 v hv)
  have S1 : Hid (∀ v : World, Bd v → Calls Tryd.prog 11 #[.int .i64 4098] v (P3 2 1 0 v)) := Lib.hid (fun v hv => split_any 4098 v hv (by omega) (by omega))
  have S2 : Hid (∀ v : World, Bd v → Calls Tryd.prog 11 #[.int .i64 4095] v (P3 0 0 7 v)) := Lib.hid (fun v hv => split_any 4095 v hv (by omega) (by omega))
  have H := Lib.hid h
  clear h
  go_enter Tryd.func8, Tryd.ntmps8
  go_wp2_with fail
  refine (J1.out w H.out).mono ?_
  rintro e w1 ⟨rfl, b1⟩
  have H1 := Lib.hid (H.out.next b1)
  have B1 := Lib.hid b1
  clear b1
  go_wp2_with fail
  refine (S1.out w1 H1.out).mono ?_
  rintro e w2 ⟨rfl, b2⟩
  have H2 := Lib.hid (H1.out.next b2)
  have B2 := Lib.hid (belowT B1.out b2)
  clear b2
  go_wp2_with fail
  refine (J2.out w2 H2.out).mono ?_
  rintro e w3 ⟨rfl, b3⟩
  have H3 := Lib.hid (H2.out.next b3)
  have B3 := Lib.hid (belowT B2.out b3)
  clear b3
  go_wp2_with fail
  refine (S2.out w3 H3.out).mono ?_
  rintro e w4 ⟨rfl, b4⟩
  have B4 := Lib.hid (belowT B3.out b4)
  clear b4
  go_wp2
  go_ret
  exact ⟨rfl, B4.out⟩
end Go.Proofs.YtodombgmjnidiaaDoor
