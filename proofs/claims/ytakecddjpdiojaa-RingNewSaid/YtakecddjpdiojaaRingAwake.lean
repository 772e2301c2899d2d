/-
  The law's own 'awake' of package ring: it returns true, and leaves all memory that was there as it was.
-/
import Derived.Test.YtakecddjpdiojaaRingNew
namespace Go.Proofs.Ytakecddjpdiojaa
open Go.ChangeShapes Go.WideShapes Go.ChangeAt Go.RowKit

theorem pushOut_ok {N M C : Nat} {L : List (List Int)} (hw : Wf N M C L) {i n : Nat} (hi : i < M) (hn : n < N) (ho : ofL L n = -1) : pushOut N L i n = (pushL L i n, 0) := by
  unfold pushOut
  rw [hw.len, if_pos ⟨inB_of hi, inB_of hn⟩, if_pos ho, Int.toNat_natCast]
theorem pushOut_there {N M C : Nat} {L : List (List Int)} (hw : Wf N M C L) {i n : Nat} (hi : i < M) (hn : n < N) (ho : ofL L n ≠ -1) : pushOut N L i n = (L, 10) := by
  unfold pushOut
  rw [hw.len, if_pos ⟨inB_of hi, inB_of hn⟩, if_neg ho]

theorem awake07_any (w : World) :
    Calls Try.prog 8 #[] w fun e w' => e = .returned (.bool true) ∧ Below w.heap.size w w' := by
  have HN : Hid (Calls Try.prog 9 #[.int .i64 8, .int .i64 2] w fun e w' => ∃ p a b, e = .returned (.tuple #[.pointer (some ⟨p, 0, none⟩), .int .i64 0]) ∧ Rg w' p a b 8 2 0 (List.replicate 2 []) ∧ Below w.heap.size w w' ∧ w.heap.size ≤ p ∧ w.heap.size ≤ a ∧ w.heap.size ≤ b) :=
    Lib.hid (new_ok 8 2 w (by omega) (by omega) (by omega) (by omega))
  go_enter Try.func8, Try.ntmps8
  go_wp2_with fail
  refine HN.out.mono ?_
  rintro e w1 ⟨p, a, b, rfl, r1, b1, hp, ha, hb⟩
  have B1 := Lib.hid b1
  have HA := Lib.hid ha
  have HB := Lib.hid hb
  have H1 : Hid (Calls Try.prog 16 #[.pointer (some ⟨p, 0, none⟩), .int .i64 1, .int .i64 3] w1 fun e w' => e = .returned (.int .i64 0) ∧ Rg w' p a b 8 2 1 [[], [3]] ∧ But (Own a b) w1 w') := Lib.hid (by
    have := rgPush r1 (by omega) 1 3
    rwa [show pushOut 8 (List.replicate 2 []) 1 3 = ([[], [3]], 0) from pushOut_ok (i := 1) (n := 3) r1.wf (by omega) (by omega) (of_no (at_blank _ · · _))] at this)
  clear r1 b1 hp ha hb HN
  go_wp2_with fail
  refine H1.out.mono ?_
  rintro e w2 ⟨rfl, r2, b2⟩
  have B2 := Lib.hid b2
  have N5 : ∀ i j, ¬ At [[], [3]] i j (5 : Int) := fun i j h => by
    have h5 := at_gt h
    have hl := at_len h
    have hj := at_lt h
    match i, hl with
    | 0, _ => simp [ln] at hj
    | 1, _ =>
      have : j = 0 := by simp [ln] at hj; exact hj
      subst this
      simp [gt] at h5
  have H2 : Hid (Calls Try.prog 16 #[.pointer (some ⟨p, 0, none⟩), .int .i64 1, .int .i64 5] w2 fun e w' => e = .returned (.int .i64 0) ∧ Rg w' p a b 8 2 2 [[], [5, 3]] ∧ But (Own a b) w2 w') := Lib.hid (by
    have := rgPush r2 (by omega) 1 5
    rwa [show pushOut 8 [[], [3]] 1 5 = ([[], [5, 3]], 0) from pushOut_ok (i := 1) (n := 5) r2.wf (by omega) (by omega) (of_no N5)] at this)
  clear r2 b2 H1 N5
  go_wp2_with fail
  refine H2.out.mono ?_
  rintro e w3 ⟨rfl, r3, b3⟩
  have B3 := Lib.hid b3
  have A5 : At [[], [5, 3]] 1 0 (5 : Int) := ⟨[5, 3], rfl, rfl⟩
  have A3 : At [[], [5, 3]] 1 1 (3 : Int) := ⟨[5, 3], rfl, rfl⟩
  have H3 : Hid (Calls Try.prog 16 #[.pointer (some ⟨p, 0, none⟩), .int .i64 0, .int .i64 5] w3 fun e w' => e = .returned (.int .i64 10) ∧ Rg w' p a b 8 2 3 [[], [5, 3]] ∧ But (Own a b) w3 w') := Lib.hid (by
    have := rgPush r3 (by omega) 0 5
    rwa [show pushOut 8 [[], [5, 3]] 0 5 = ([[], [5, 3]], 10) from pushOut_there (i := 0) (n := 5) r3.wf (by omega) (by omega) (by show ofL _ (5 : Int) ≠ -1; rw [r3.wf.of A5]; decide)] at this)
  clear r3 b3 H2
  go_wp2_with fail
  refine H3.out.mono ?_
  rintro e w4 ⟨rfl, r4, b4⟩
  have B4 := Lib.hid b4
  have HX := Lib.hid (new_bad 0 1 w4 (by decide))
  have K1 : Hid (Calls Try.prog 17 #[.pointer (some ⟨p, 0, none⟩), .int .i64 1] w4 (R1 5 w4)) := Lib.hid (rgFirst r4 1)
  have K2 : Hid (Calls Try.prog 21 #[.pointer (some ⟨p, 0, none⟩), .int .i64 1] w4 (R1 3 w4)) := Lib.hid (rgLast r4 1)
  have K3 : Hid (Calls Try.prog 18 #[.pointer (some ⟨p, 0, none⟩), .int .i64 5] w4 (R1 3 w4)) := Lib.hid (by have := rgNext r4 5; rw [r4.wf.next A5] at this; exact this)
  have K4 : Hid (Calls Try.prog 15 #[.pointer (some ⟨p, 0, none⟩), .int .i64 3] w4 (R1 1 w4)) := Lib.hid (by have := rgOf r4 3; rw [r4.wf.of A3] at this; exact this)
  have K5 : Hid (Calls Try.prog 14 #[.pointer (some ⟨p, 0, none⟩), .int .i64 1] w4 (R1 2 w4)) := Lib.hid (rgLen r4 1)
  have K6 : Hid (Calls Try.prog 17 #[.pointer (some ⟨p, 0, none⟩), .int .i64 0] w4 (R1 (-1) w4)) := Lib.hid (rgFirst r4 0)
  clear r4 b4 H3 A5 A3
  go_wp2_with fail
  refine HX.out.mono ?_
  rintro e w5 ⟨rfl, rfl⟩
  go_wp2_with fail
  refine K1.out.mono ?_
  rintro e w5 ⟨rfl, rfl⟩
  go_wp2_with fail
  refine K2.out.mono ?_
  rintro e w5 ⟨rfl, rfl⟩
  go_wp2_with fail
  refine K3.out.mono ?_
  rintro e w5 ⟨rfl, rfl⟩
  go_wp2_with fail
  refine K4.out.mono ?_
  rintro e w5 ⟨rfl, rfl⟩
  go_wp2_with fail
  refine K5.out.mono ?_
  rintro e w5 ⟨rfl, rfl⟩
  go_wp2_with fail
  refine K6.out.mono ?_
  rintro e w5 ⟨rfl, rfl⟩
  go_wp2
  go_ret
  exact ⟨rfl, B1.out.trans (Rg.own ((B2.out.trans B3.out).trans B4.out) B1.out.size HA.out HB.out)⟩
end Go.Proofs.Ytakecddjpdiojaa
