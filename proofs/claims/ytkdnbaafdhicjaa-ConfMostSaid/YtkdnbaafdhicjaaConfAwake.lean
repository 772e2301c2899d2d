/-
  What the statements of package conf begin with: a small layout (small), what is told of it (awake), and whether a layout has few classes (few), each met by a contract.
-/
import Derived.Test.YtkdnbaafdhicjaaConfMay
import Derived.Test.YtkdnbaafdhicjaaConfAsk
namespace Go.Proofs.Ytkdnbaafdhicjaa
open Go.ChangeShapes Go.WideShapes Go.ChangeAt Go.RowKit

/-- Block g holds the layout's eight cells. -/
structure Boxed (w : World) (g : Nat) (c : Cf) : Prop where
  c0 : w.cell? ⟨g, 0, none⟩ = some (.int .i64 c.size)
  c1 : w.cell? ⟨g, 1, none⟩ = some (.int .i64 c.pages)
  c2 : w.cell? ⟨g, 2, none⟩ = some (.slice c.ca c.cn c.cc)
  c3 : w.cell? ⟨g, 3, none⟩ = some (.slice c.ka c.kn c.kc)
  c4 : w.cell? ⟨g, 4, none⟩ = some (.int .i64 c.step)
  c5 : w.cell? ⟨g, 5, none⟩ = some (.int .i64 c.slots)
  c6 : w.cell? ⟨g, 6, none⟩ = some (.int .i64 c.gens)
  c7 : w.cell? ⟨g, 7, none⟩ = some (.int .i64 c.most)
  lt : g < w.heap.size

theorem Boxed.below {w w' : World} {g B : Nat} {c : Cf} (h : Boxed w g c) (hb : Below B w w') (hg : g < B) : Boxed w' g c :=
  ⟨(hb.cell (p := ⟨g, 0, none⟩) hg).trans h.c0, (hb.cell (p := ⟨g, 1, none⟩) hg).trans h.c1, (hb.cell (p := ⟨g, 2, none⟩) hg).trans h.c2, (hb.cell (p := ⟨g, 3, none⟩) hg).trans h.c3, (hb.cell (p := ⟨g, 4, none⟩) hg).trans h.c4, (hb.cell (p := ⟨g, 5, none⟩) hg).trans h.c5, (hb.cell (p := ⟨g, 6, none⟩) hg).trans h.c6, (hb.cell (p := ⟨g, 7, none⟩) hg).trans h.c7, Nat.lt_of_lt_of_le h.lt hb.size⟩
theorem Boxed.new (w : World) (c : Cf) : Boxed (w.alloc (.cells #[.int .i64 c.size, .int .i64 c.pages, .slice c.ca c.cn c.cc, .slice c.ka c.kn c.kc, .int .i64 c.step, .int .i64 c.slots, .int .i64 c.gens, .int .i64 c.most] 24)) w.heap.size c := ⟨by go_simp, by go_simp, by go_simp, by go_simp, by go_simp, by go_simp, by go_simp, by go_simp, by simp⟩
theorem Boxed.on {w w' : World} {g : Nat} {c : Cf} (h : Boxed w g c) (hb : Below w.heap.size w w') : Boxed w' g c := h.below hb h.lt

/-- The eight cells, through a call. -/
theorem keep8 {w w' : World} {B g : Nat} {c : Cf} (hb : Below B w w') (hg : g < B) (h : w.cell? ⟨g, 0, none⟩ = some (.int .i64 c.size) ∧ w.cell? ⟨g, 1, none⟩ = some (.int .i64 c.pages) ∧
      w.cell? ⟨g, 2, none⟩ = some (.slice c.ca c.cn c.cc) ∧ w.cell? ⟨g, 3, none⟩ = some (.slice c.ka c.kn c.kc) ∧
      w.cell? ⟨g, 4, none⟩ = some (.int .i64 c.step) ∧ w.cell? ⟨g, 5, none⟩ = some (.int .i64 c.slots) ∧
      w.cell? ⟨g, 6, none⟩ = some (.int .i64 c.gens) ∧ w.cell? ⟨g, 7, none⟩ = some (.int .i64 c.most)) :
    w'.cell? ⟨g, 0, none⟩ = some (.int .i64 c.size) ∧ w'.cell? ⟨g, 1, none⟩ = some (.int .i64 c.pages) ∧
      w'.cell? ⟨g, 2, none⟩ = some (.slice c.ca c.cn c.cc) ∧ w'.cell? ⟨g, 3, none⟩ = some (.slice c.ka c.kn c.kc) ∧
      w'.cell? ⟨g, 4, none⟩ = some (.int .i64 c.step) ∧ w'.cell? ⟨g, 5, none⟩ = some (.int .i64 c.slots) ∧
      w'.cell? ⟨g, 6, none⟩ = some (.int .i64 c.gens) ∧ w'.cell? ⟨g, 7, none⟩ = some (.int .i64 c.most) :=
  ⟨(hb.cell (p := ⟨g, 0, none⟩) hg).trans h.1, (hb.cell (p := ⟨g, 1, none⟩) hg).trans h.2.1, (hb.cell (p := ⟨g, 2, none⟩) hg).trans h.2.2.1, (hb.cell (p := ⟨g, 3, none⟩) hg).trans h.2.2.2.1, (hb.cell (p := ⟨g, 4, none⟩) hg).trans h.2.2.2.2.1, (hb.cell (p := ⟨g, 5, none⟩) hg).trans h.2.2.2.2.2.1, (hb.cell (p := ⟨g, 6, none⟩) hg).trans h.2.2.2.2.2.2.1, (hb.cell (p := ⟨g, 7, none⟩) hg).trans h.2.2.2.2.2.2.2⟩

/-- The small layout, its lists in blocks g and k. -/
def smallCf (g k : Nat) (m : Int) : Cf := ⟨64, 4, some ⟨g, 0, none⟩, 2, 2, some ⟨k, 0, none⟩, 2, 2, 8, 4, 3, m, [16, 32], [0, 1]⟩

theorem small03_any (w : World) : Calls Try.prog 18 #[] w fun e w' =>
    e = .returned (.agg #[.int .i64 64, .int .i64 4, .slice (some ⟨w.heap.size + 1, 0, none⟩) 2 2, .slice (some ⟨w.heap.size + 1 + 1, 0, none⟩) 2 2, .int .i64 8, .int .i64 4, .int .i64 3, .int .i64 512]) ∧
    w' = ((w.alloc (.cells #[.int .i64 64, .int .i64 4, .slice (some ⟨w.heap.size + 1, 0, none⟩) 2 2, .slice (some ⟨w.heap.size + 1 + 1, 0, none⟩) 2 2, .int .i64 8, .int .i64 4, .int .i64 3, .int .i64 512] 24)).alloc (.cells #[.int .i64 16, .int .i64 32] 3)).alloc (.cells #[.int .i64 0, .int .i64 1] 3) := by
  go_enter Try.func18, Try.ntmps18
  go_wp2
  exact bodyPost_ret (v := .agg #[.int .i64 64, .int .i64 4, .slice (some ⟨w.heap.size + 1, 0, none⟩) 2 2, .slice (some ⟨w.heap.size + 1 + 1, 0, none⟩) 2 2, .int .i64 8, .int .i64 4, .int .i64 3, .int .i64 512]) (by simp [results, Try.results18, go_sem]) rfl ⟨rfl, rfl⟩

theorem few_yes (c : Cf) (w : World) (h1 : c.cn ≤ 40) (h2 : c.kn ≤ 40) : Calls Try.prog 9 #[(.agg #[.int .i64 c.size, .int .i64 c.pages, .slice c.ca c.cn c.cc, .slice c.ka c.kn c.kc, .int .i64 c.step, .int .i64 c.slots, .int .i64 c.gens, .int .i64 c.most])] w (BB true w) := by
  have d1 : decide ((c.cn : Int) ≤ 40) = true := by simp; omega
  have d2 : decide ((c.kn : Int) ≤ 40) = true := by simp; omega
  go_enter Try.func9, Try.ntmps9
  go_wp2
  go_ret
  exact ⟨rfl, below1 _ _⟩
theorem few_no (c : Cf) (w : World) (h : ¬ (c.cn ≤ 40 ∧ c.kn ≤ 40)) : Calls Try.prog 9 #[(.agg #[.int .i64 c.size, .int .i64 c.pages, .slice c.ca c.cn c.cc, .slice c.ka c.kn c.kc, .int .i64 c.step, .int .i64 c.slots, .int .i64 c.gens, .int .i64 c.most])] w (BB false w) := by
  by_cases h1 : c.cn ≤ 40
  · have d1 : decide ((c.cn : Int) ≤ 40) = true := by simp; omega
    have d2 : decide ((c.kn : Int) ≤ 40) = false := by simp; omega
    clear h
    go_enter Try.func9, Try.ntmps9
    go_wp2
    go_ret
    exact ⟨rfl, below1 _ _⟩
  · have d1 : decide ((c.cn : Int) ≤ 40) = false := by simp; omega
    clear h
    go_enter Try.func9, Try.ntmps9
    go_wp2
    go_ret
    exact ⟨rfl, below1 _ _⟩

theorem small_ints (w : World) (g : Nat) (B : Nat) (a b : Int) (h0 : w.cell? ⟨g, 0, none⟩ = some (.int .i64 a)) (h1 : w.cell? ⟨g, 1, none⟩ = some (.int .i64 b)) (hB : g < B)
    (ha : Fit a) (hb : Fit b) : Ints w B (some ⟨g, 0, none⟩) 2 [a, b] := by
  refine ⟨rfl, by omega, ?_, fun _ => ⟨g, 0, rfl, hB, fun k s hs => ?_⟩⟩
  · intro x hx
    simp at hx
    rcases hx with rfl | rfl
    · exact ha
    · exact hb
  · match k, hs with
    | 0, hs => simp at hs; subst hs; simpa using h0
    | 1, hs => simp at hs; subst hs; simpa using h1
    | k + 2, hs => simp at hs

theorem smallCf_ok {w : World} {B g k : Nat} (m : Int) (hm : Fit m) (hg : Ints w B (some ⟨g, 0, none⟩) 2 [16, 32]) (hk : Ints w B (some ⟨k, 0, none⟩) 2 [0, 1]) : (smallCf g k m).Ok w B :=
  ⟨hg, hk, by simp [smallCf, Fit], by simp [smallCf, Fit], by simp [smallCf, Fit], by simp [smallCf, Fit], by simp [smallCf, Fit], hm⟩

/-- How small ends: its lists lie in two blocks. -/
def SmallEnd (w : World) (e : Ending) (w' : World) : Prop :=
  ∃ g k : Nat, e = .returned (.agg #[.int .i64 64, .int .i64 4, .slice (some ⟨g, 0, none⟩) 2 2, .slice (some ⟨k, 0, none⟩) 2 2, .int .i64 8, .int .i64 4, .int .i64 3, .int .i64 512]) ∧ Ints w' w'.heap.size (some ⟨g, 0, none⟩) 2 [16, 32] ∧ Ints w' w'.heap.size (some ⟨k, 0, none⟩) 2 [0, 1] ∧ Below w.heap.size w w'

theorem small03_end (w : World) : Calls Try.prog 18 #[] w (SmallEnd w) := by
  refine (small03_any w).mono ?_
  rintro e w' ⟨rfl, rfl⟩
  refine ⟨_, _, rfl, small_ints _ _ _ _ _ (by go_simp) (by go_simp) (by simp <;> omega) (by simp [Fit]) (by simp [Fit]), small_ints _ _ _ _ _ (by go_simp) (by go_simp) (by simp <;> omega) (by simp [Fit]) (by simp [Fit]), ?_⟩
  exact ((below2 w _ _).alloc (by simp <;> omega) _)

theorem small_may (g k : Nat) : confMay (smallCf g k 512) = 0 := by rfl
theorem small_may_not (g k : Nat) : confMay (smallCf g k 513) = 1 := by rfl
theorem small_blocks0 (g k : Nat) : blocks (smallCf g k 512) 0 = 4 := by rfl
theorem small_blocks2 (g k : Nat) : blocks (smallCf g k 512) 2 = 0 := by rfl
theorem small_small (g k : Nat) : small (smallCf g k 512) = 32 := by rfl
theorem small_large : large 64 = 512 := by rfl

set_option maxHeartbeats 1600000 in
theorem awake03_any (w : World) : Calls Try.prog 8 #[] w (BB true w) := by
  go_enter Try.func8, Try.ntmps8
  go_wp2_with fail
  refine (small03_end _).mono ?_
  rintro e w1 ⟨g, k, rfl, i1, i2, b1⟩
  go_wp2_with fail
  refine (small03_end _).mono ?_
  rintro e w2 ⟨g', k', rfl, j1, j2, b2⟩
  have B1 : Boxed w2 w1.heap.size (smallCf g k 512) := (Boxed.new w1 (smallCf g k 512)).below b2 (by simp)
  have O1 : (smallCf g k 512).Ok w2 w2.heap.size := Cf.Ok.on (smallCf_ok 512 (by simp [Fit]) ((i1.alloc (Nat.le_refl _) _).more (by simp)) ((i2.alloc (Nat.le_refl _) _).more (by simp))) b2
  have bb : Below w.heap.size w w2 := belowT (b1.alloc b1.size _) b2
  have B1' := B1.on (below1 w2 (.cells #[.int .i64 64, .int .i64 4, .slice (some ⟨g', 0, none⟩) 2 2, .slice (some ⟨k', 0, none⟩) 2 2, .int .i64 8, .int .i64 4, .int .i64 3, .int .i64 513] 24))
  have O1' := O1.on (below1 w2 (.cells #[.int .i64 64, .int .i64 4, .slice (some ⟨g', 0, none⟩) 2 2, .slice (some ⟨k', 0, none⟩) 2 2, .int .i64 8, .int .i64 4, .int .i64 3, .int .i64 513] 24))
  have O2' : (smallCf g' k' 513).Ok (w2.alloc (.cells #[.int .i64 64, .int .i64 4, .slice (some ⟨g', 0, none⟩) 2 2, .slice (some ⟨k', 0, none⟩) 2 2, .int .i64 8, .int .i64 4, .int .i64 3, .int .i64 513] 24)) (w2.alloc (.cells #[.int .i64 64, .int .i64 4, .slice (some ⟨g', 0, none⟩) 2 2, .slice (some ⟨k', 0, none⟩) 2 2, .int .i64 8, .int .i64 4, .int .i64 3, .int .i64 513] 24)).heap.size := smallCf_ok 513 (by simp [Fit]) ((j1.alloc (Nat.le_refl _) _).more (by simp)) ((j2.alloc (Nat.le_refl _) _).more (by simp))
  have bb' := belowT bb (below1 w2 (.cells #[.int .i64 64, .int .i64 4, .slice (some ⟨g', 0, none⟩) 2 2, .slice (some ⟨k', 0, none⟩) 2 2, .int .i64 8, .int .i64 4, .int .i64 3, .int .i64 513] 24))
  have B2' : Boxed (w2.alloc (.cells #[.int .i64 64, .int .i64 4, .slice (some ⟨g', 0, none⟩) 2 2, .slice (some ⟨k', 0, none⟩) 2 2, .int .i64 8, .int .i64 4, .int .i64 3, .int .i64 513] 24)) w2.heap.size (smallCf g' k' 513) := Boxed.new w2 (smallCf g' k' 513)
  have H1 := confMay_any _ _ O1'
  rw [small_may] at H1
  have K1 := Lib.hid H1
  obtain ⟨x0, x1, x2, x3, x4, x5, x6, x7, _⟩ := B1
  dsimp only [smallCf] at x0 x1 x2 x3 x4 x5 x6 x7
  clear H1 b1 b2 i1 i2 j1 j2 bb O1
  go_wp2_with fail
  refine K1.out.mono ?_
  rintro e w3 ⟨rfl, f3⟩
  have B1_3 := B1'.on f3
  have B2_3 := B2'.on f3
  have O1_3 := O1'.on f3
  have O2_3 := O2'.on f3
  have b3 := belowT bb' f3
  have H2 := confMay_any _ _ O2_3
  rw [small_may_not] at H2
  have K2 := Lib.hid H2
  obtain ⟨y0, y1, y2, y3, y4, y5, y6, y7, _⟩ := B2_3
  dsimp only [smallCf] at y0 y1 y2 y3 y4 y5 y6 y7
  clear H2 f3 B1' B2' O1' O2' O2_3 bb' x0 x1 x2 x3 x4 x5 x6 x7
  go_wp2_with fail
  refine K2.out.mono ?_
  rintro e w4 ⟨rfl, f4⟩
  have B1_4 := B1_3.on f4
  have O1_4 := O1_3.on f4
  have b4 := belowT b3 f4
  have H3 := blocks_any (smallCf g k 512) 0 _ O1_4 (by simp [Fit])
  rw [small_blocks0] at H3
  have K3 := Lib.hid H3
  have ⟨z0, z1, z2, z3, z4, z5, z6, z7, _⟩ := B1_4
  dsimp only [smallCf] at z0 z1 z2 z3 z4 z5 z6 z7
  clear H3 f4 B1_3 O1_3 b3 y0 y1 y2 y3 y4 y5 y6 y7
  go_wp2_with fail
  refine K3.out.mono ?_
  rintro e w5 ⟨rfl, f5⟩
  clear z0 z1 z2 z3 z4 z5 z6 z7
  have B1_5 := B1_4.on f5
  have O1_5 := O1_4.on f5
  have b5 := belowT b4 f5
  have H4 := blocks_any (smallCf g k 512) 2 _ O1_5 (by simp [Fit])
  rw [small_blocks2] at H4
  have K4 := Lib.hid H4
  have ⟨z0, z1, z2, z3, z4, z5, z6, z7, _⟩ := B1_5
  dsimp only [smallCf] at z0 z1 z2 z3 z4 z5 z6 z7
  clear H4 f5 B1_4 O1_4 b4
  go_wp2_with fail
  refine K4.out.mono ?_
  rintro e w6 ⟨rfl, f6⟩
  clear z0 z1 z2 z3 z4 z5 z6 z7
  have B1_6 := B1_5.on f6
  have O1_6 := O1_5.on f6
  have b6 := belowT b5 f6
  have H5 := small_any (smallCf g k 512) _ O1_6
  rw [small_small] at H5
  have K5 := Lib.hid H5
  have ⟨z0, z1, z2, z3, z4, z5, z6, z7, _⟩ := B1_6
  dsimp only [smallCf] at z0 z1 z2 z3 z4 z5 z6 z7
  clear H5 f6 B1_5 O1_5 b5
  go_wp2_with fail
  refine K5.out.mono ?_
  rintro e w7 ⟨rfl, f7⟩
  clear z0 z1 z2 z3 z4 z5 z6 z7
  have B1_7 := B1_6.on f7
  have b7 := belowT b6 f7
  have H6 := large_any (smallCf g k 512) w7
  have ⟨z0, z1, z2, z3, z4, z5, z6, z7, _⟩ := B1_7
  dsimp only [smallCf] at z0 z1 z2 z3 z4 z5 z6 z7 H6
  rw [small_large] at H6
  have K6 := Lib.hid H6
  clear H6 f7 B1_6 O1_6 b6
  go_wp2_with fail
  refine K6.out.mono ?_
  rintro e w8 ⟨rfl, rfl⟩
  go_wp2
  go_ret
  exact ⟨rfl, b7.alloc b7.size _⟩
end Go.Proofs.Ytkdnbaafdhicjaa
