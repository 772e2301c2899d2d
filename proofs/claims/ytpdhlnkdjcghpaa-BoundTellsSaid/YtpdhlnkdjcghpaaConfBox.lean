/-
  A block that holds a layout's eight cells, and how it is kept; two ints in a block as a list. No statement about a Go function.
-/
import Derived.Test.YtpdhlnkdjcghpaaConfNum
namespace Go.Proofs.Ytpdhlnkdjcghpaa
open Go.ChangeShapes Go.WideShapes Go.ChangeAt Go.RowKit

/-- Block g holds the layout's eight cells. -/
structure Boxed (w : World) (g : Nat) (c : Cf) : Prop where
  c0 : w.cell? ⟨g, 0, none⟩ = some (.int .i64 c.size)
  c1 : w.cell? ⟨g, 1, none⟩ = some (.int .i64 c.pages)
  c2 : w.cell? ⟨g, 2, none⟩ = some (.slice c.ca c.cn c.cc)
  c3 : w.cell? ⟨g, 3, none⟩ = some (.slice c.ka c.kn c.kc)
  c4 : w.cell? ⟨g, 4, none⟩ = some (.int .i64 c.step)
  c5 : w.cell? ⟨g, 5, none⟩ = some (.int .i64 c.slots)
  c6 : w.cell? ⟨g, 6, none⟩ = some (.int .i64 c.gens)
  c7 : w.cell? ⟨g, 7, none⟩ = some (.int .i64 c.most)
  lt : g < w.heap.size

theorem Boxed.below {w w' : World} {g B : Nat} {c : Cf} (h : Boxed w g c) (hb : Below B w w') (hg : g < B) : Boxed w' g c :=
  ⟨(hb.cell (p := ⟨g, 0, none⟩) hg).trans h.c0, (hb.cell (p := ⟨g, 1, none⟩) hg).trans h.c1, (hb.cell (p := ⟨g, 2, none⟩) hg).trans h.c2, (hb.cell (p := ⟨g, 3, none⟩) hg).trans h.c3, (hb.cell (p := ⟨g, 4, none⟩) hg).trans h.c4, (hb.cell (p := ⟨g, 5, none⟩) hg).trans h.c5, (hb.cell (p := ⟨g, 6, none⟩) hg).trans h.c6, (hb.cell (p := ⟨g, 7, none⟩) hg).trans h.c7, Nat.lt_of_lt_of_le h.lt hb.size⟩
theorem Boxed.new (w : World) (c : Cf) : Boxed (w.alloc (.cells #[.int .i64 c.size, .int .i64 c.pages, .slice c.ca c.cn c.cc, .slice c.ka c.kn c.kc, .int .i64 c.step, .int .i64 c.slots, .int .i64 c.gens, .int .i64 c.most] 24)) w.heap.size c := ⟨by go_simp, by go_simp, by go_simp, by go_simp, by go_simp, by go_simp, by go_simp, by go_simp, by simp⟩
theorem Boxed.on {w w' : World} {g : Nat} {c : Cf} (h : Boxed w g c) (hb : Below w.heap.size w w') : Boxed w' g c := h.below hb h.lt

/-- The eight cells, through a call. -/
theorem keep8 {w w' : World} {B g : Nat} {c : Cf} (hb : Below B w w') (hg : g < B) (h : w.cell? ⟨g, 0, none⟩ = some (.int .i64 c.size) ∧ w.cell? ⟨g, 1, none⟩ = some (.int .i64 c.pages) ∧
      w.cell? ⟨g, 2, none⟩ = some (.slice c.ca c.cn c.cc) ∧ w.cell? ⟨g, 3, none⟩ = some (.slice c.ka c.kn c.kc) ∧
      w.cell? ⟨g, 4, none⟩ = some (.int .i64 c.step) ∧ w.cell? ⟨g, 5, none⟩ = some (.int .i64 c.slots) ∧
      w.cell? ⟨g, 6, none⟩ = some (.int .i64 c.gens) ∧ w.cell? ⟨g, 7, none⟩ = some (.int .i64 c.most)) :
    w'.cell? ⟨g, 0, none⟩ = some (.int .i64 c.size) ∧ w'.cell? ⟨g, 1, none⟩ = some (.int .i64 c.pages) ∧
      w'.cell? ⟨g, 2, none⟩ = some (.slice c.ca c.cn c.cc) ∧ w'.cell? ⟨g, 3, none⟩ = some (.slice c.ka c.kn c.kc) ∧
      w'.cell? ⟨g, 4, none⟩ = some (.int .i64 c.step) ∧ w'.cell? ⟨g, 5, none⟩ = some (.int .i64 c.slots) ∧
      w'.cell? ⟨g, 6, none⟩ = some (.int .i64 c.gens) ∧ w'.cell? ⟨g, 7, none⟩ = some (.int .i64 c.most) :=
  ⟨(hb.cell (p := ⟨g, 0, none⟩) hg).trans h.1, (hb.cell (p := ⟨g, 1, none⟩) hg).trans h.2.1, (hb.cell (p := ⟨g, 2, none⟩) hg).trans h.2.2.1, (hb.cell (p := ⟨g, 3, none⟩) hg).trans h.2.2.2.1, (hb.cell (p := ⟨g, 4, none⟩) hg).trans h.2.2.2.2.1, (hb.cell (p := ⟨g, 5, none⟩) hg).trans h.2.2.2.2.2.1, (hb.cell (p := ⟨g, 6, none⟩) hg).trans h.2.2.2.2.2.2.1, (hb.cell (p := ⟨g, 7, none⟩) hg).trans h.2.2.2.2.2.2.2⟩

/-- A list's cell, and the eight cells, through a call. -/
theorem keep9c {w w' : World} {B g b o : Nat} {c : Cf} {s : Int} (hb : Below B w w') (hg : g < B) (hB : b < B) (h : w.cell? ⟨b, o, none⟩ = some (.int .i64 s) ∧ w.cell? ⟨g, 0, none⟩ = some (.int .i64 c.size) ∧ w.cell? ⟨g, 1, none⟩ = some (.int .i64 c.pages) ∧
      w.cell? ⟨g, 2, none⟩ = some (.slice c.ca c.cn c.cc) ∧ w.cell? ⟨g, 3, none⟩ = some (.slice c.ka c.kn c.kc) ∧
      w.cell? ⟨g, 4, none⟩ = some (.int .i64 c.step) ∧ w.cell? ⟨g, 5, none⟩ = some (.int .i64 c.slots) ∧
      w.cell? ⟨g, 6, none⟩ = some (.int .i64 c.gens) ∧ w.cell? ⟨g, 7, none⟩ = some (.int .i64 c.most)) :
    w'.cell? ⟨b, o, none⟩ = some (.int .i64 s) ∧ w'.cell? ⟨g, 0, none⟩ = some (.int .i64 c.size) ∧ w'.cell? ⟨g, 1, none⟩ = some (.int .i64 c.pages) ∧
      w'.cell? ⟨g, 2, none⟩ = some (.slice c.ca c.cn c.cc) ∧ w'.cell? ⟨g, 3, none⟩ = some (.slice c.ka c.kn c.kc) ∧
      w'.cell? ⟨g, 4, none⟩ = some (.int .i64 c.step) ∧ w'.cell? ⟨g, 5, none⟩ = some (.int .i64 c.slots) ∧
      w'.cell? ⟨g, 6, none⟩ = some (.int .i64 c.gens) ∧ w'.cell? ⟨g, 7, none⟩ = some (.int .i64 c.most) :=
  ⟨(hb.cell (p := ⟨b, o, none⟩) hB).trans h.1, keep8 hb hg h.2⟩

theorem small_ints (w : World) (g : Nat) (B : Nat) (a b : Int) (h0 : w.cell? ⟨g, 0, none⟩ = some (.int .i64 a)) (h1 : w.cell? ⟨g, 1, none⟩ = some (.int .i64 b)) (hB : g < B)
    (ha : Fit a) (hb : Fit b) : Ints w B (some ⟨g, 0, none⟩) 2 [a, b] := by
  refine ⟨rfl, by omega, ?_, fun _ => ⟨g, 0, rfl, hB, fun k s hs => ?_⟩⟩
  · intro x hx
    simp at hx
    rcases hx with rfl | rfl
    · exact ha
    · exact hb
  · match k, hs with
    | 0, hs => simp at hs; subst hs; simpa using h0
    | 1, hs => simp at hs; subst hs; simpa using h1
    | k + 2, hs => simp at hs
end Go.Proofs.Ytpdhlnkdjcghpaa
