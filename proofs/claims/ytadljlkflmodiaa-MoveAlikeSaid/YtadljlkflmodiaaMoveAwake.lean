/-
  The law's own 'awake' of package move: it returns true, and leaves all memory that was there as it was.
-/
import Derived.Test.YtadljlkflmodiaaMoveUse
namespace Go.Proofs.Ytadljlkflmodiaa
open Go.ChangeShapes Go.WideShapes Go.ChangeAt Go.RowKit

def abc : List Int := [97, 98, 99, 100, 101, 102, 103, 104, 105, 106]
def awake1 : List Int := splice (List.replicate 64 0) 0 abc
def awake2 : List Int := laid awake1 0 20 0 4
def awake3 : List Int := splice awake2 2 [88]
def awake4 : List Int := laid awake3 0 20 2 1
theorem awake_len : awake1.length = 64 ∧ awake2.length = 64 ∧ awake3.length = 64 ∧ awake4.length = 64 := by decide
theorem awake_sub : sub awake4 20 10 = [97, 98, 88, 100, 0, 0, 0, 0, 0, 0] := by decide

set_option maxRecDepth 20000 in
theorem awake15_any (w : World) :
    Calls Try.prog 8 #[] w (BB true w) := by
  have HN : Hid (Calls Try.prog 11 #[.int .i64 1, .int .i64 64, .pointer none] w fun e w' => ∃ p b, e = .returned (.tuple #[.pointer (some ⟨p, 0, none⟩), .int .i64 0]) ∧ Ar w' p b none (List.replicate 64 0) 0 0 ∧ Below w.heap.size w w' ∧ w.heap.size ≤ p ∧ w.heap.size ≤ b) :=
    Lib.hid (arenaNew_ok 1 64 none 0 0 w (by decide) (Mo.nobody _ _ _) (fun _ e => by cases e))
  have hcv := bytes_lit
  go_enter Try.func8, Try.ntmps8
  go_wp2_with fail
  refine HN.out.mono ?_
  rintro e w1 ⟨p, b, rfl, a1, b1, hp, hb⟩
  have B1 := Lib.hid b1
  have HB := Lib.hid hb
  have A1 := Lib.hid a1
  clear HN a1 b1 hp hb
  have HW : Hid (Calls Try.prog 12 #[.pointer (some ⟨p, 0, none⟩), .int .i64 0, .slice (some ⟨w1.heap.size, 0, none⟩) 10 10] (w1.alloc (.cells #[.int .u8 97, .int .u8 98, .int .u8 99, .int .u8 100, .int .u8 101, .int .u8 102, .int .u8 103, .int .u8 104, .int .u8 105, .int .u8 106] 5 (10, 11))) fun e w' => e = .returned (.int .i64 0) ∧ Ar w' p b none awake1 0 0 ∧ Below w.heap.size w w') := Lib.hid (by
    have R := lit_row w1 abc #[.int .u8 97, .int .u8 98, .int .u8 99, .int .u8 100, .int .u8 101, .int .u8 102, .int .u8 103, .int .u8 104, .int .u8 105, .int .u8 106] 5 rfl (by decide) (by decide)
    have bW := below1 w1 (.cells #[.int .u8 97, .int .u8 98, .int .u8 99, .int .u8 100, .int .u8 101, .int .u8 102, .int .u8 103, .int .u8 104, .int .u8 105, .int .u8 106] 5 (10, 11))
    refine (write_ok (A1.out.below bW) 0 (some ⟨w1.heap.size, 0, none⟩) 10 10 _ abc (fun w' hb => (R.all rfl).but hb (Nat.le_refl _) (fun i hi e => by cases e)) (by simp)).mono ?_
    rintro e w' ⟨rfl, h2, hb⟩
    exact ⟨rfl, h2.free 0 0, (belowT B1.out bW).trans (Ar.minB hb (Nat.le_trans B1.out.size bW.size) HB.out)⟩)
  go_wp2_with fail
  refine HW.out.mono ?_
  rintro e w2 ⟨rfl, a2, b2⟩
  have B2 := Lib.hid b2
  have HC : Hid (Calls Try.prog 15 #[.pointer (some ⟨p, 0, none⟩), .int .i64 0, .int .i64 20, .int .i64 10] w2 fun e w' => ∃ q, e = .returned (.tuple #[.pointer (some ⟨q, 0, none⟩), .int .i64 0]) ∧ Mw w' q p b none awake1 0 0 0 20 10 0 ∧ Below w2.heap.size w2 w' ∧ w2.heap.size ≤ q) := Lib.hid (moveNew_ok a2 0 20 10 (by decide))
  clear HW a2 b2 A1
  go_wp2_with fail
  refine HC.out.mono ?_
  rintro e w3 ⟨q, rfl, m3, b3, hq⟩
  have B3 := Lib.hid (belowT B2.out b3)
  have HQ := Lib.hid (Nat.le_trans B2.out.size hq)
  have HS : Hid (Calls Try.prog 22 #[.pointer (some ⟨q, 0, none⟩), .int .i64 4] w3 fun e w' => e = .returned (.int .i64 4) ∧ Mw w' q p b none awake2 0 0 0 20 10 4 ∧ Below w.heap.size w w') := Lib.hid (by
    refine (step_any m3 4).mono ?_
    rintro e w' ⟨rfl, hm, hb⟩
    exact ⟨rfl, hm.free 0 0, B3.out.trans (Mw.minB hb B3.out.size HQ.out HB.out)⟩)
  clear HC m3 b3 hq
  go_wp2_with fail
  refine HS.out.mono ?_
  rintro e w4 ⟨rfl, m4, b4⟩
  have B4 := Lib.hid b4
  have HW : Hid (Calls Try.prog 12 #[.pointer (some ⟨p, 0, none⟩), .int .i64 2, .slice (some ⟨w4.heap.size, 0, none⟩) 1 1] (w4.alloc (.cells #[.int .u8 88] 5 (1, 2))) fun e w' => e = .returned (.int .i64 0) ∧ Mw w' q p b none awake3 0 0 0 20 10 4 ∧ Below w.heap.size w w') := Lib.hid (by
    have R := lit_row w4 [88] #[.int .u8 88] 5 rfl (by decide) (by decide)
    have bW := below1 w4 (.cells #[.int .u8 88] 5 (1, 2))
    refine (mwrite_ok (m4.below bW) 2 (some ⟨w4.heap.size, 0, none⟩) 1 1 _ [88] (fun w' hb => (R.all rfl).but hb (Nat.le_refl _) (fun i hi e => by cases e)) rfl (by decide)).mono ?_
    rintro e w' ⟨rfl, h2, hb⟩
    exact ⟨rfl, h2.free 0 0, (belowT B4.out bW).trans (Ar.minB hb (Nat.le_trans B4.out.size bW.size) HB.out)⟩)
  clear HS m4 b4
  go_wp2_with fail
  refine HW.out.mono ?_
  rintro e w5 ⟨rfl, m5, b5⟩
  have B5 := Lib.hid b5
  have HS : Hid (Calls Try.prog 24 #[.pointer (some ⟨q, 0, none⟩), .int .i64 2, .int .i64 1] w5 fun e w' => e = .returned (.int .i64 0) ∧ Mw w' q p b none awake4 0 0 0 20 10 4 ∧ Below w.heap.size w w') := Lib.hid (by
    refine (wrote_ok m5 2 1 (by decide)).mono ?_
    rintro e w' ⟨rfl, hm, hb⟩
    exact ⟨rfl, hm.free 0 0, B5.out.trans (Ar.minB hb B5.out.size HB.out)⟩)
  clear HW m5 b5
  go_wp2_with fail
  refine HS.out.mono ?_
  rintro e w6 ⟨rfl, m6, b6⟩
  have B6 := Lib.hid b6
  have HR : Hid (Calls Try.prog 21 #[.pointer (some ⟨p, 0, none⟩), .int .i64 20, .int .i64 10] w6 fun e w' => ∃ g, e = .returned (.tuple #[.slice (some ⟨g, 0, none⟩) 10 10, .int .i64 0]) ∧ Row w' g [97, 98, 88, 100, 0, 0, 0, 0, 0, 0] ∧ Mw w' q p b none awake4 0 0 0 20 10 4 ∧ Below w.heap.size w w') := Lib.hid (by
    refine (mread_ok m6 20 10 (by decide)).mono ?_
    rintro e w' ⟨g, rfl, hr, hm, hb, _⟩
    rw [awake_sub] at hr
    exact ⟨g, rfl, hr, hm.free 0 0, B6.out.trans (Ar.minB hb B6.out.size HB.out)⟩)
  clear HS m6 b6
  go_wp2_with fail
  refine HR.out.mono ?_
  rintro e w7 ⟨g, rfl, r7, m7, b7⟩
  have B7 := Lib.hid b7
  have HE : Hid (Calls Try.prog 15 #[.pointer (some ⟨p, 0, none⟩), .int .i64 0, .int .i64 9, .int .i64 10] w7 fun e w' => e = .returned (.tuple #[.pointer none, .int .i64 1]) ∧ w7 = w') := Lib.hid (moveNew_bad m7.ar 0 9 10 (by decide) (by decide))
  have HL := Lib.hid (left_any m7.mv (by decide))
  have HO : Hid (∀ k, Calls Try.prog 24 #[.pointer (some ⟨q, 0, none⟩), .int .i64 9, .int .i64 2] (w7.drewN k) fun e w' => e = .returned (.int .i64 8) ∧ w7.drewN k = w') := Lib.hid (fun k => wrote_bad (m7.drewN k) 9 2 (by decide) (by decide))
  have hcut : ∀ v, (Instr.sliceAt 22 (.slice (some ⟨g, 0, none⟩) 10 10) none (some (.int .i64 4)) none).run Try.prog v = .ok (.slice (some ⟨g, 0, none⟩) 4 10) v := cut_h (by decide)
  have hstr : ∀ k, (convert 22 9 (.slice (some ⟨g, 0, none⟩) 4 10)).run Try.prog (w7.drewN k) = .ok (.string (strOfNums [97, 98, 88, 100])) (w7.drewN k) := fun k => string_run ((r7.drewN k).bytes (at_ := 0) (o := 0) (k := 4) (by decide) (fun _ => rfl))
  have hq : (strOfNums [97, 98, 88, 100]).toList = [97, 98, 88, 100] := by first | rfl | decide | kernel_rfl
  have hcell : ∀ k, (w7.drewN k).cell? ⟨g, 4, none⟩ = some (.int .u8 0) := fun k => (r7.drewN k).cell 4 0 rfl
  clear HR m7 b7 r7
  go_wp2_with fail
  refine HE.out.mono ?_
  rintro e w8 ⟨rfl, rfl⟩
  go_wp2_with fail
  refine HL.out.mono ?_
  rintro e w8 ⟨rfl, k, rfl⟩
  have hs1 := hstr k
  have hc1 := hcell k
  have HO1 := Lib.hid (HO.out k)
  have B8 := Lib.hid (belowN B7.out k)
  clear hstr hcell HO HL HE
  generalize w7.drewN k = w8 at *
  go_wp2_with fail
  refine HO1.out.mono ?_
  rintro e w9 ⟨rfl, rfl⟩
  go_wp2
  go_ret
  exact ⟨rfl, B8.out⟩
end Go.Proofs.Ytadljlkflmodiaa
