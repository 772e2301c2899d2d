/-
  Package bits: Set, whatever comes in; the law's own 'awake', 'same'.
-/
import Derived.Test.YtbdjocoedcgfbaaBitsSet
import Derived.Test.YtbdjocoedcgfbaaBitsCount
import Derived.Test.YtbdjocoedcgfbaaBitsRef
namespace Go.Proofs.Ytbdjocoedcgfbaa
open Go.ChangeShapes Go.WideShapes Go.ChangeAt Go.RowKit

/-- How Set ends. -/
def SetEnds (p : Nat) (L : List Bool) (z : Int) (w : World) (e : Ending) (w' : World) : Prop := e = .returned (.int .i64 z) ∧ Bm w' p L ∧ But (· = p) w w'
section
variable {w : World} {p : Nat} {L : List Bool}
theorem set_any (h : Bm w p L) (at_ : Int) (is : Bool) : Calls Try.prog 11 #[.pointer (some ⟨p, 0, none⟩), .int .i64 at_, .bool is] w (SetEnds p (setL L at_ is) (setE L at_ is) w) := by
  cases q : inB L at_ with
  | false =>
    rw [(setL_off q).1, (setL_off q).2]
    exact (set_off h at_ q is).mono fun e w' ⟨he, hw⟩ => ⟨he, hw ▸ h, hw ▸ But.refl _ _⟩
  | true =>
    obtain ⟨k, rfl, hk⟩ := inB_in q
    by_cases e : bt L k = is
    · subst e
      rw [(setL_same hk).1, (setL_same hk).2]
      exact (set_same h k hk).mono fun e w' ⟨he, d, hw⟩ => ⟨he, hw ▸ h.drewN d, hw ▸ (But.refl _ _).drewN d⟩
    · rw [(setL_flip hk e).1, (setL_flip hk e).2]
      exact set_flip h k hk is e
end

set_option maxRecDepth 20000 in
set_option maxHeartbeats 1000000 in
theorem awake11_any (w : World) : Calls Try.prog 8 #[] w (BB true w) := by
  have HN : Hid (Calls Try.prog 9 #[.int .i64 3] w fun e w' => e = .returned (.tuple #[.pointer (some ⟨w.heap.size, 0, none⟩), .int .i64 0]) ∧ Bm w' w.heap.size [false, false, false] ∧ Below w.heap.size w w' ∧ w.heap.size < w'.heap.size) := Lib.hid (new_ok 3 (by omega) (by omega) w)
  obtain ⟨p, hp⟩ : ∃ p, p = w.heap.size := ⟨_, rfl⟩
  have HP := Lib.hid hp
  rw [← hp] at HN
  clear hp
  go_enter Try.func8, Try.ntmps8
  go_wp2_with fail
  refine HN.out.mono ?_
  rintro e w1 ⟨rfl, r1, b1, _⟩
  have B1 : Hid (Below w.heap.size w w1) := Lib.hid (by rw [← HP.out]; exact b1)
  clear b1 HN
  have H1 : Hid (Calls Try.prog 11 #[.pointer (some ⟨p, 0, none⟩), .int .i64 0, .bool true] w1 (SetEnds p [true, false, false] 0 w1)) := Lib.hid (set_any r1 0 true)
  clear r1
  go_wp2_with fail
  refine H1.out.mono ?_
  rintro e w2 ⟨rfl, r2, b2⟩
  have B2 := Lib.hid (B1.out.trans (b2.one B1.out.size (Nat.le_of_eq HP.out.symm)))
  clear b2 H1 B1
  have H2 : Hid (Calls Try.prog 11 #[.pointer (some ⟨p, 0, none⟩), .int .i64 1, .bool true] w2 (SetEnds p [true, true, false] 0 w2)) := Lib.hid (set_any r2 1 true)
  clear r2
  go_wp2_with fail
  refine H2.out.mono ?_
  rintro e w3 ⟨rfl, r3, b3⟩
  have B3 := Lib.hid (B2.out.trans (b3.one B2.out.size (Nat.le_of_eq HP.out.symm)))
  clear b3 H2 B2
  have H3 : Hid (Calls Try.prog 11 #[.pointer (some ⟨p, 0, none⟩), .int .i64 1, .bool true] w3 (SetEnds p [true, true, false] 10 w3)) := Lib.hid (set_any r3 1 true)
  clear r3
  go_wp2_with fail
  refine H3.out.mono ?_
  rintro e w4 ⟨rfl, r4, b4⟩
  have B4 := Lib.hid (B3.out.trans (b4.one B3.out.size (Nat.le_of_eq HP.out.symm)))
  clear b4 H3 B3
  have H4 : Hid (Calls Try.prog 11 #[.pointer (some ⟨p, 0, none⟩), .int .i64 2, .bool false] w4 (SetEnds p [true, true, false] 9 w4)) := Lib.hid (set_any r4 2 false)
  clear r4
  go_wp2_with fail
  refine H4.out.mono ?_
  rintro e w5 ⟨rfl, r5, b5⟩
  have B5 := Lib.hid (B4.out.trans (b5.one B4.out.size (Nat.le_of_eq HP.out.symm)))
  clear b5 H4 B4
  have H5 : Hid (Calls Try.prog 11 #[.pointer (some ⟨p, 0, none⟩), .int .i64 3, .bool true] w5 (SetEnds p [true, true, false] 1 w5)) := Lib.hid (set_any r5 3 true)
  clear r5
  go_wp2_with fail
  refine H5.out.mono ?_
  rintro e w6 ⟨rfl, r6, b6⟩
  have B6 := Lib.hid (B5.out.trans (b6.one B5.out.size (Nat.le_of_eq HP.out.symm)))
  clear b6 H5 B5
  have H6 : Hid (Calls Try.prog 16 #[.pointer (some ⟨p, 0, none⟩)] w6 (R1 2 w6)) := Lib.hid (low_any r6)
  have H7 : Hid (Calls Try.prog 17 #[.pointer (some ⟨p, 0, none⟩)] w6 (R1 1 w6)) := Lib.hid (high_any r6)
  have H8 : Hid (Calls Try.prog 18 #[.pointer (some ⟨p, 0, none⟩)] w6 (R1 2 w6)) := Lib.hid (count_any r6)
  have H9 : Hid (Calls Try.prog 14 #[.pointer (some ⟨p, 0, none⟩), .int .i64 0] w6 (BQ true w6)) := Lib.hid (has_any r6 0)
  have H10 : Hid (∀ d, Calls Try.prog 14 #[.pointer (some ⟨p, 0, none⟩), .int .i64 2] (w6.drewN d) (BQ false (w6.drewN d))) := Lib.hid (fun d => has_any (r6.drewN d) 2)
  clear r6
  go_wp2_with fail
  refine H6.out.mono ?_
  rintro e w7 ⟨rfl, rfl⟩
  go_wp2_with fail
  refine H7.out.mono ?_
  rintro e w7 ⟨rfl, rfl⟩
  go_wp2_with fail
  refine H8.out.mono ?_
  rintro e w7 ⟨rfl, rfl⟩
  go_wp2_with fail
  refine H9.out.mono ?_
  rintro e w7 ⟨rfl, d, rfl⟩
  go_wp2_with fail
  refine (H10.out d).mono ?_
  rintro e w8 ⟨rfl, d2, rfl⟩
  go_wp2
  go_ret
  exact ⟨rfl, belowN B6.out _⟩

section
variable {w : World} {p b n c : Nat} {L : List Bool}
theorem same11_any (h : Bm w p L) (hx : Bools w w.heap.size (some ⟨b, 0, none⟩) n L) (hn : n ≤ 512) :
    Calls Try.prog 13 #[.pointer (some ⟨p, 0, none⟩), .slice (some ⟨b, 0, none⟩) n c] w (B1 true w) := by
  have H1 := Lib.hid (low_any h)
  have H2 := Lib.hid (refLow_any (c := c) hx)
  have H3 := Lib.hid (high_any h)
  have H4 := Lib.hid (refHigh_any (c := c) hx)
  have H5 := Lib.hid (count_any h)
  have H6 := Lib.hid (refCount_any (c := c) hx hn)
  generalize lowOf L = x1 at H1 H2
  generalize highOf L = x2 at H3 H4
  generalize ((L.count true : Nat) : Int) = x3 at H5 H6
  have e1 : (x1 == x1) = true := by simp
  have e2 : (x2 == x2) = true := by simp
  have e3 : (x3 == x3) = true := by simp
  clear h hx hn
  go_enter Try.func13, Try.ntmps13
  go_wp2_with fail
  refine H1.out.mono ?_
  rintro e w7 ⟨rfl, rfl⟩
  go_wp2_with fail
  refine H2.out.mono ?_
  rintro e w7 ⟨rfl, rfl⟩
  go_wp2_with fail
  refine H3.out.mono ?_
  rintro e w7 ⟨rfl, rfl⟩
  go_wp2_with fail
  refine H4.out.mono ?_
  rintro e w7 ⟨rfl, rfl⟩
  go_wp2_with fail
  refine H5.out.mono ?_
  rintro e w7 ⟨rfl, rfl⟩
  go_wp2_with fail
  refine H6.out.mono ?_
  rintro e w7 ⟨rfl, rfl⟩
  go_wp2
  go_ret
  exact ⟨rfl, rfl⟩
end
end Go.Proofs.Ytbdjocoedcgfbaa
