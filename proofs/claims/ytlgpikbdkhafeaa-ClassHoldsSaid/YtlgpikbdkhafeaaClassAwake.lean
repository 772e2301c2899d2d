/-
  The common beginning of the statements of package class: two sizes, 8 and 24: it returns true, and leaves all memory that was there as it was.
-/
import Derived.Test.YtlgpikbdkhafeaaClassRefTab
namespace Go.Proofs.Ytlgpikbdkhafeaa
open Go.ChangeShapes Go.WideShapes Go.ChangeAt Go.RowKit

theorem two_sizes (w : World) : Ints (w.alloc (.cells #[.int .i64 8, .int .i64 24] 3)) (w.alloc (.cells #[.int .i64 8, .int .i64 24] 3)).heap.size (some ⟨w.heap.size, 0, none⟩) 2 [8, 24] := by
  refine ⟨rfl, by omega, by simp, fun _ => ⟨w.heap.size, 0, rfl, by simp, fun k s hs => ?_⟩⟩
  match k, hs with
  | 0, hs => simp at hs; subst hs; simp
  | 1, hs => simp at hs; subst hs; simp
  | k + 2, hs => simp at hs

/-- It returns the bool P, and leaves all memory that was there as it was. -/
def BB (P : Bool) (w : World) (e : Ending) (w' : World) : Prop := e = .returned (.bool P) ∧ Below w.heap.size w w'

theorem awake02_any (w : World) : Calls Try.prog 8 #[] w (BB true w) := by
  have hI := two_sizes w
  have HT := Lib.hid (table_any _ 2 2 _ 24 _ hI rfl (by omega) (by omega))
  have HI := Lib.hid hI
  clear hI
  go_enter Try.func8, Try.ntmps8
  go_wp2_with fail
  refine HT.out.mono ?_
  rintro e w1 ⟨g, hg, rfl, ht, hb⟩
  have hI1 := HI.out.on hb
  have e1 : may [8, 24] 64 = 0 := by decide
  have e2 : may [8, 24] 16 = 1 := by decide
  have e3 : pick [8, 24] 9 = 1 := by decide
  have e4 : waste [8, 24] 9 = 15 := by decide
  have e5 : pick [8, 24] 25 = -1 := by decide
  have e6 : table [8, 24] ((24 / 8 : Int).toNat + 1) = [-1, 0, 1, 1] := by decide
  have e7 : look [-1, 0, 1, 1] 24 = 1 := by decide
  have H1 := may_any _ 2 2 _ 64 _ _ hI1
  have H2 := may_any _ 2 2 _ 16 _ _ hI1
  have H3 := pick_any _ 2 2 _ 9 _ _ hI1
  have H4 := waste_any _ 2 2 _ 9 _ _ hI1
  have H5 := pick_any _ 2 2 _ 25 _ _ hI1
  rw [e1] at H1
  rw [e2] at H2
  rw [e3] at H3
  rw [e4] at H4
  rw [e5] at H5
  rw [e6] at ht
  have ht4 : Ints w1 w1.heap.size (some ⟨g, 0, none⟩) 4 [-1, 0, 1, 1] := ht
  have H7 := look_any _ 4 4 _ 24 _ ht4 (by omega)
  rw [e7] at H7
  obtain ⟨b, o, hbo, _, hc⟩ := ht4.head (by omega)
  injection hbo with hbo
  injection hbo with hbo ho
  subst hbo
  subst ho
  have c0 : w1.cell? ⟨g, 0, none⟩ = some (.int .i64 (-1)) := hc 0 _ rfl
  have c1 : w1.cell? ⟨g, 1, none⟩ = some (.int .i64 0) := hc 1 _ rfl
  have c3 : w1.cell? ⟨g, 3, none⟩ = some (.int .i64 1) := hc 3 _ rfl
  have K1 := Lib.hid H1
  have K2 := Lib.hid H2
  have K3 := Lib.hid H3
  have K4 := Lib.hid H4
  have K5 := Lib.hid H5
  have K7 := Lib.hid H7
  clear H1 H2 H3 H4 H5 H7 e1 e2 e3 e4 e5 e6 e7 ht ht4 hc hI1
  go_wp2_with fail
  refine K1.out.mono ?_
  rintro e w2 ⟨rfl, rfl⟩
  go_wp2_with fail
  refine K2.out.mono ?_
  rintro e w2 ⟨rfl, rfl⟩
  go_wp2_with fail
  refine K3.out.mono ?_
  rintro e w2 ⟨rfl, rfl⟩
  go_wp2_with fail
  refine K4.out.mono ?_
  rintro e w2 ⟨rfl, rfl⟩
  go_wp2_with fail
  refine K5.out.mono ?_
  rintro e w2 ⟨rfl, rfl⟩
  go_wp2_with fail
  refine K7.out.mono ?_
  rintro e w2 ⟨rfl, f2⟩
  go_wp2
  go_ret
  exact ⟨rfl, (((Below.refl _ _).alloc (Nat.le_refl _) _).trans (hb.mono (by simp))).trans (f2.below.mono (by have := hb.size; simp at this; omega))⟩
end Go.Proofs.Ytlgpikbdkhafeaa
