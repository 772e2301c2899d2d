/-
  The law's own 'awake' of package arena: it returns true, and leaves all memory that was there as it was.
-/
import Derived.Test.YtnopeifgcpibaaaArenaUse
import Derived.Test.YtnopeifgcpibaaaArenaWord
namespace Go.Proofs.Ytnopeifgcpibaaa
open Go.ChangeShapes Go.WideShapes Go.ChangeAt Go.RowKit

theorem two_row (w : World) (x y : Int) (t : TypeId) (hx : 0 ≤ x ∧ x ≤ 255) (hy : 0 ≤ y ∧ y ≤ 255) : Row (w.alloc (.cells #[.int .u8 x, .int .u8 y] t)) w.heap.size [x, y] := by
  have hh : (w.alloc (.cells #[.int .u8 x, .int .u8 y] t)).heap[w.heap.size]? = some (.cells #[.int .u8 x, .int .u8 y] t) := by simp only [World.alloc, Array.getElem?_push, if_true]
  refine ⟨fun k s hs => ?_, fun k hk => ?_, fun z hz => ?_, by simp, by simp⟩
  · rw [World.cell?, hh]
    match k, hs with
    | 0, hs => simp at hs; subst hs; rfl
    | 1, hs => simp at hs; subst hs; rfl
  · rw [World.frozen?, hh]
    simp
  · simp at hz
    rcases hz with rfl | rfl
    · exact hx
    · exact hy

theorem awake06_any (w : World) :
    Calls Try.prog 8 #[] w fun e w' => e = .returned (.bool true) ∧ Below w.heap.size w w' := by
  go_enter Try.func8, Try.ntmps8
  go_wp2_with fail
  refine (new_any w).mono ?_
  rintro e w1 ⟨rfl, m1, b1, s1⟩
  generalize hgg : w.heap.size = g at m1 s1
  have HN : Hid (Calls Try.prog 11 #[.int .i64 1, .int .i64 64, .pointer (some ⟨g, 0, none⟩)] w1 fun e w' => ∃ p b, e = .returned (.tuple #[.pointer (some ⟨p, 0, none⟩), .int .i64 0]) ∧ Ar w' p b (some g) (List.replicate 64 0) 0 0 ∧ Below w1.heap.size w1 w' ∧ w1.heap.size ≤ p ∧ w1.heap.size ≤ b) :=
    Lib.hid (arenaNew_ok 1 64 (some g) 0 0 w1 (by decide) (Mo.one m1) (fun q e => by cases e; exact s1))
  have B1 := Lib.hid b1
  have HG := Lib.hid hgg
  have S1 := Lib.hid s1
  clear b1 hgg s1 m1
  go_wp2_with fail
  refine HN.out.mono ?_
  rintro e w2 ⟨p, b, rfl, a2, b2, hp, hb⟩
  have A2 := Lib.hid (a2.below (below1 w2 (.cells #[.int .u8 1, .int .u8 2] 5)))
  have B2 := Lib.hid b2
  have HP := Lib.hid hp
  have HB := Lib.hid hb
  have G2 := Lib.hid (Nat.lt_of_lt_of_le S1.out b2.size)
  clear a2 b2 hp hb HN
  have HW : Hid (Calls Try.prog 18 #[.pointer (some ⟨p, 0, none⟩), .int .i64 8, .slice (some ⟨w2.heap.size, 0, none⟩) 2 2] (w2.alloc (.cells #[.int .u8 1, .int .u8 2] 5)) fun e w' => e = .returned (.int .i64 0) ∧ Ar w' p b (some g) (splice (List.replicate 64 0) 8 [1, 2]) 2 0 ∧ But (Mine b (some g)) (w2.alloc (.cells #[.int .u8 1, .int .u8 2] 5)) w') :=
    Lib.hid (write_ok A2.out 8 (some ⟨w2.heap.size, 0, none⟩) 2 2 (w2.heap.size + 1) [1, 2] (fun w' hb => by
      have R := (two_row w2 1 2 5 (by omega) (by omega)).but hb (fun e => by have := G2.out; injection e with e; omega)
      have := R.bytes (at_ := 0) (o := 0) (k := 2) (by simp) (fun _ => rfl)
      obtain ⟨q1, q2, q3, q4⟩ := this
      refine ⟨q1, q2, q3, fun h => ?_⟩
      obtain ⟨b', o', e, _, hc⟩ := q4 h
      injection e with e
      injection e with e1 e2
      subst e1 e2
      exact ⟨_, _, rfl, by omega, hc⟩) (by simp))
  go_wp2_with fail
  refine HW.out.mono ?_
  rintro e w3 ⟨rfl, a3, b3⟩
  have A3 := Lib.hid a3
  have B3 := Lib.hid b3
  clear a3 b3 HW A2
  have hl : (splice (List.replicate 64 (0 : Int)) 8 [1, 2]).length = 64 := by decide
  have HL := Lib.hid hl
  have H1 : Hid (Calls Try.prog 21 #[.pointer (some ⟨p, 0, none⟩), .int .i64 8] w3 fun e w' => e = .returned (.tuple #[.int .u64 513, .int .i64 0]) ∧ Ar w' p b (some g) (splice (List.replicate 64 0) 8 [1, 2]) 3 0 ∧ But (Mine b (some g)) w3 w') :=
    Lib.hid (by
      have := load_ok A3.out 8 (by rw [hl]; omega) (by omega)
      rwa [show wordOf (sub (splice (List.replicate 64 (0 : Int)) 8 [1, 2]) 8 8) = 513 by decide] at this)
  clear hl
  go_wp2_with fail
  refine H1.out.mono ?_
  rintro e w4 ⟨rfl, a4, b4⟩
  have A4 := Lib.hid a4
  have B4 := Lib.hid b4
  clear a4 b4 H1 A3
  have H2 : Hid (Calls Try.prog 21 #[.pointer (some ⟨p, 0, none⟩), .int .i64 9] w4 fun e w' => e = .returned (.tuple #[.int .u64 0, .int .i64 1]) ∧ w4 = w') :=
    Lib.hid (by
      have he : wordErr (splice (List.replicate 64 (0 : Int)) 8 [1, 2]).length 9 = 1 := by rw [HL.out]; decide
      have := load_bad A4.out 9 (by omega) (by rw [he]; decide)
      rwa [he] at this)
  go_wp2_with fail
  refine H2.out.mono ?_
  rintro e w5 ⟨rfl, rfl⟩
  clear H2
  have H3 : Hid (Calls Try.prog 16 #[.pointer (some ⟨p, 0, none⟩), .int .i64 60, .int .i64 5] w4 fun e w' => e = .returned (.tuple #[.slice none 0 0, .int .i64 8]) ∧ w4 = w') :=
    Lib.hid (read_bad A4.out 60 5 (by omega) (by rw [HL.out]; decide))
  go_wp2_with fail
  refine H3.out.mono ?_
  rintro e w5 ⟨rfl, rfl⟩
  clear H3
  have H4 : Hid (Calls Try.prog 17 #[.pointer (some ⟨p, 0, none⟩)] w4 (R1 64 w4)) :=
    Lib.hid (by have := len_any A4.out; rw [HL.out] at this; exact this)
  go_wp2_with fail
  refine H4.out.mono ?_
  rintro e w5 ⟨rfl, rfl⟩
  clear H4
  go_wp2_with fail
  refine (total_any g 3 0 _ (A4.out.mo g rfl)).mono ?_
  rintro e w5 ⟨rfl, rfl⟩
  go_wp2
  go_ret
  refine ⟨rfl, ?_⟩
  have hG := HG.out
  have hs : w.heap.size ≤ w2.heap.size := Nat.le_trans B1.out.size B2.out.size
  have hb := HB.out
  have hs1 := B1.out.size
  have bb := (B3.out.trans B4.out)
  have : Below w.heap.size (w2.alloc (.cells #[.int .u8 1, .int .u8 2] 5)) w4 := Ar.mine bb (by simp; omega) (by omega) (fun q e => by cases e; omega)
  exact (belowT (belowT B1.out B2.out) (below1 w2 _)).trans this
end Go.Proofs.Ytnopeifgcpibaaa
