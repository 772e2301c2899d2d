import Derived.Test.YtijkigibcpgciaaZShRun
/-
  Layer 13's 'awake': two blocks a page, three taken. It answers true.
-/
namespace Go.Proofs.Ytijkigibcpgciaa.Sh
open Go.ChangeShapes Go.WideShapes Go.ChangeAt Go.RowKit
set_option maxRecDepth 100000

theorem fitn (n : Nat) (h : n ≤ 1000000) : Pl.Fit (n : Int) := ⟨by omega, by omega⟩
def aw1 : Shl := ⟨[5, -1], [1], [(0, [7, -1])], [0]⟩
def aw2 : Shl := ⟨[5, -1], [1], [(0, [7, 8])], []⟩
def aw3 : Shl := ⟨[5, 5], [], [(0, [7, 8]), (1, [9, -1])], [1]⟩
def aw4 : Shl := ⟨[5, 5], [], [(0, [7, -1]), (1, [9, -1])], [0, 1]⟩
theorem aw_1 : takeOut 5 2 ⟨Pl.freed 2, Pl.turns 2, [], []⟩ 7 = (aw1, 0, 0, 0) := by kernel_rfl
theorem aw_2 : takeOut 5 2 aw1 8 = (aw2, 0, 1, 0) := by kernel_rfl
theorem aw_3 : takeOut 5 2 aw2 9 = (aw3, 1, 0, 0) := by kernel_rfl
theorem aw_4 : giveOut aw3 0 1 = (aw4, 0) := by kernel_rfl
theorem aw_5 : planS aw4 = some (1, 0, 0, 1) := by kernel_rfl
theorem aw_6 : ownerS aw4 1 0 = 9 := by kernel_rfl
theorem aw_7 : usedS aw4.ps = 2 := by kernel_rfl
theorem aw_8 : Pl.ownOut aw4.O 1 = 5 := by kernel_rfl
set_option maxHeartbeats 2000000 in
theorem awake13_any (w : World) : Calls Try.prog 9 #[] w (BB true w) := by
  have HN : Hid (Calls Try.prog 10 #[.int .i64 2] w fun e w' => ∃ p a, e = .returned (.tuple #[.pointer (some ⟨p, 0, none⟩), .int .i64 0]) ∧ Pl.Pm w' p a 2 (Pl.freed 2) (Pl.turns 2) ∧ Below w.heap.size w w' ∧ w.heap.size ≤ p ∧ w.heap.size ≤ a) := Lib.hid (Pl.new_ok 2 w (by omega) (by omega))
  go_enter Try.func9, Try.ntmps9
  go_wp2_with fail
  refine HN.out.mono ?_
  rintro e w1 ⟨pp, pa, rfl, r1, b1, l1, l2⟩
  have HS : Hid (Calls Try.prog 11 #[.pointer (some ⟨pp, 0, none⟩), .int .i64 5, .int .i64 2] w1 fun e w2 => ∃ x : Fx, e = .returned (.tuple #[.pointer (some ⟨x.s, 0, none⟩), .int .i64 0]) ∧ (x.pp = pp ∧ x.K = 2 ∧ x.B = 2 ∧ x.c = 5) ∧ Hx w x ⟨Pl.freed 2, Pl.turns 2, [], []⟩ w2) := Lib.hid ((shNew_ok r1 5 (by omega) (by omega) 2 (by omega) (by omega)).mono fun e w2 h => Hx.new b1 l1 l2 h)
  clear HN r1 b1 l1 l2
  go_wp2_with fail
  refine HS.out.mono ?_
  rintro e w2 ⟨x, rfl, ⟨hpp, hK, hB, hc⟩, h2⟩
  have C1 := Lib.hid (h2.take 7 (by omega))
  rw [hB, hc, aw_1] at C1
  have FX := Lib.hid (show x.K = 2 ∧ x.B = 2 ∧ x.c = 5 from ⟨hK, hB, hc⟩)
  have EP := Lib.hid hpp
  clear h2 HS hK hB hc hpp
  go_wp2_with fail
  refine C1.out.mono ?_
  rintro e w3 ⟨rfl, h3⟩
  have C2 := Lib.hid (h3.take 8 (by omega))
  rw [FX.out.2.1, FX.out.2.2, aw_2] at C2
  clear h3 C1
  go_wp2_with fail
  refine C2.out.mono ?_
  rintro e w4 ⟨rfl, h4⟩
  have C3 := Lib.hid (h4.take 9 (by omega))
  rw [FX.out.2.1, FX.out.2.2, aw_3] at C3
  clear h4 C2
  go_wp2_with fail
  refine C3.out.mono ?_
  rintro e w5 ⟨rfl, h5⟩
  have C4 := Lib.hid (h5.give (n := 0) (fitn 0 (by omega)) 1)
  rw [aw_4] at C4
  clear h5 C3
  go_wp2_with fail
  refine C4.out.mono ?_
  rintro e w6 ⟨rfl, h6⟩
  have C5 := Lib.hid h6.plan
  rw [aw_5] at C5
  clear h6 C4
  unfold planV at C5
  go_wp2_with fail
  refine C5.out.mono ?_
  rintro e w7 ⟨rfl, h7⟩
  have H7 := Lib.hid h7
  clear h7 C5
  go_wp2_with fail
  refine (shNew_nil 5 2 _).mono ?_
  rintro e w8 ⟨rfl, rfl⟩
  have H8 := Lib.hid (H7.out.grow (below1 w7 (.cells #[.int .i64 1, .int .i64 0, .int .i64 0, .int .i64 1] 53)))
  have D1 : Hid (Calls Try.prog 21 #[.pointer (some ⟨x.s, 0, none⟩)] (w7.alloc (.cells #[.int .i64 1, .int .i64 0, .int .i64 0, .int .i64 1] 53)) (R1 2 (w7.alloc (.cells #[.int .i64 1, .int .i64 0, .int .i64 0, .int .i64 1] 53)))) := Lib.hid H8.out.pages
  have D2 : Hid (Calls Try.prog 19 #[.pointer (some ⟨x.s, 0, none⟩)] (w7.alloc (.cells #[.int .i64 1, .int .i64 0, .int .i64 0, .int .i64 1] 53)) (R1 2 (w7.alloc (.cells #[.int .i64 1, .int .i64 0, .int .i64 0, .int .i64 1] 53)))) := Lib.hid H8.out.opens
  have D3 : Hid (Calls Try.prog 20 #[.pointer (some ⟨x.s, 0, none⟩)] (w7.alloc (.cells #[.int .i64 1, .int .i64 0, .int .i64 0, .int .i64 1] 53)) (R1 2 (w7.alloc (.cells #[.int .i64 1, .int .i64 0, .int .i64 0, .int .i64 1] 53)))) := Lib.hid (by have := H8.out.used; rw [aw_7] at this; exact this)
  have D4 : Hid (Calls Try.prog 24 #[.pointer (some ⟨x.s, 0, none⟩), .int .i64 1, .int .i64 0] (w7.alloc (.cells #[.int .i64 1, .int .i64 0, .int .i64 0, .int .i64 1] 53)) (R1 9 (w7.alloc (.cells #[.int .i64 1, .int .i64 0, .int .i64 0, .int .i64 1] 53)))) := Lib.hid (by have := H8.out.owner (n := 1) (k := 0) (fitn 1 (by omega)) (fitn 0 (by omega)); rw [aw_6] at this; exact this)
  have D5 : Hid (Calls Try.prog 18 #[.pointer (some ⟨pp, 0, none⟩), .int .i64 1] (w7.alloc (.cells #[.int .i64 1, .int .i64 0, .int .i64 0, .int .i64 1] 53)) (R1 5 (w7.alloc (.cells #[.int .i64 1, .int .i64 0, .int .i64 0, .int .i64 1] 53)))) := Lib.hid (by have := H8.out.powner 1; rw [aw_8, EP.out] at this; exact this)
  have D6 : Hid (Calls Try.prog 22 #[.pointer (some ⟨pp, 0, none⟩)] (w7.alloc (.cells #[.int .i64 1, .int .i64 0, .int .i64 0, .int .i64 1] 53)) (RQ 2 (w7.alloc (.cells #[.int .i64 1, .int .i64 0, .int .i64 0, .int .i64 1] 53)))) := Lib.hid (by have := H8.out.held; rw [EP.out, FX.out.1] at this; exact this)
  have HB : Hid (Below w.heap.size w (w7.alloc (.cells #[.int .i64 1, .int .i64 0, .int .i64 0, .int .i64 1] 53))) := Lib.hid (by obtain ⟨_, _, _, _, b⟩ := H8.out; exact b)
  clear H7 H8 FX EP
  go_wp2_with fail
  refine D1.out.mono ?_
  rintro e w' ⟨rfl, rfl⟩
  go_wp2_with fail
  refine D2.out.mono ?_
  rintro e w' ⟨rfl, rfl⟩
  go_wp2_with fail
  refine D3.out.mono ?_
  rintro e w' ⟨rfl, rfl⟩
  go_wp2_with fail
  refine D4.out.mono ?_
  rintro e w' ⟨rfl, rfl⟩
  go_wp2_with fail
  refine D5.out.mono ?_
  rintro e w' ⟨rfl, rfl⟩
  go_wp2_with fail
  refine D6.out.mono ?_
  rintro e w' ⟨rfl, d, rfl⟩
  go_wp2
  go_ret
  exact ⟨rfl, belowN HB.out d⟩
end Go.Proofs.Ytijkigibcpgciaa.Sh
