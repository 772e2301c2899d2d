/-
  The document's own answers for package proxy (almeryref10): Give, of any argument.
-/
import Derived.Test.YtelhhhmmkdbagaaDoorProxyRefTake
import Derived.Test.YtelhhhmmkdbagaaDoorProxyRefLook
import Derived.Test.YtelhhhmmkdbagaaDoorQuietImp
namespace Go.Proofs.YtelhhhmmkdbagaaDoor
open Go.ChangeShapes Go.WideShapes Go.ChangeAt Go.RowKit Go.Deep

theorem Yw.drewN {W w6 : World} {K n fc c1 c2 g1 g2 Y : Nat} {fa : Option Addr} {M : Int} {G : List Int} {L : List Bool} (h : Yw W K n fa fc M G L g1 c1 g2 c2 Y w6) (d : Nat) : Yw W K n fa fc M G L g1 c1 g2 c2 Y (w6.drewN d) :=
  ⟨belowN h.below d, h.lv.below (belowN (Below.refl _ _) d), h.ig.drewN d, h.il.on (belowN (Below.refl _ _) d), h.h1, h.h2, h.later⟩
section
variable {w : World} {P : Nat → Prop} {ga la fa : Option Addr} {gc lc fc n K : Nat} {M : Int} {T : Tb} {G : List Int} {L : List Bool} {fl : List Int}
theorem refGive_bad (h : Rp w P ga gc la lc fa fc n K T) (hw : Tw K M T) (x : Int) (l1 : -9223372036854775808 ≤ x) (l2 : x ≤ 9223372036854775807) (h0 : (lookOut T x).2 ≠ 0) :
    Calls Tryd.prog 20 #[.agg #[.slice ga K gc, .slice la K lc, .slice fa n fc, .int .i64 M], .int .i64 x] w (RefGive P K M (T, (lookOut T x).2) w) := by
  obtain ⟨W, hW⟩ : ∃ W, W = boxed w (.slice ga K gc) (.slice la K lc) (.slice fa n fc) (.int .i64 M) := ⟨_, rfl⟩
  have bW := boxed_below w (.slice ga K gc) (.slice la K lc) (.slice fa n fc) (.int .i64 M)
  have X0 := boxed_x w (.slice ga K gc) (.slice la K lc) (.slice fa n fc) (.int .i64 M)
  have Z0 := boxed_z w (.slice ga K gc) (.slice la K lc) (.slice fa n fc) (.int .i64 M)
  rw [← hW] at bW X0 Z0
  have EW := Lib.hid (show (w.alloc (.cells #[.slice ga K gc, .slice la K lc, .slice fa n fc, .int .i64 M] 29)).alloc (.cells #[.slice none 0 0, .slice none 0 0, .slice none 0 0, .int .i64 0] 29) = W from hW.symm)
  have HL := Lib.hid (refLook_any (M := M) (h.on bW) hw x l1 l2)
  have HX0 := Lib.hid X0
  have HZ0 := Lib.hid Z0
  have HB0 := Lib.hid bW
  have HH := Lib.hid h
  rw [look_bad0 h0] at HL
  have e1 : ((lookOut T x).2 != 0) = true := by simpa using h0
  generalize (lookOut T x).2 = y at HL e1
  clear h hw bW hW X0 Z0 h0
  go_enter Tryd.func20, Tryd.ntmps20
  go_wp2_with fail
  rw [EW.out]
  refine HL.out.mono ?_
  rintro e w1 ⟨rfl, b1⟩
  have HZ := Lib.hid (HZ0.out.below b1)
  have HB := Lib.hid (belowT HB0.out b1)
  obtain ⟨x0, x1, x2, x3, xf0, xf1, xf2, xf3⟩ := HX0.out.below b1
  obtain ⟨z0, z1, z2, z3, zf0, zf1, zf2, zf3⟩ := HZ.out
  clear b1 HL EW
  go_wp2
  obtain ⟨r0, r1, r2, r3, _, _, _, _⟩ := HZ.out.set (.slice ga K gc) (.slice la K lc) (.slice fa n fc) (.int .i64 M)
  unfold set4 at r0 r1 r2 r3
  refine bodyPost_ret (v := .tuple #[.agg #[.slice ga K gc, .slice la K lc, .slice fa n fc, .int .i64 M], .int .i64 y]) (by simp [results, Tryd.results20, go_sem, r0, r1, r2, r3]) rfl ?_
  have bX := but_four w1 (w.heap.size + 1) (.slice ga K gc) (.slice la K lc) (.slice fa n fc) (.int .i64 M)
  exact ⟨_, _, _, _, _, _, _, P, rfl, (HH.out.on HB.out).but bX (fun i hi e => by have := HH.out.lt i hi; omega), HB.out.trans (bX.one HB.out.size (by omega)), fun _ hi => Or.inl hi⟩
set_option maxRecDepth 20000 in
set_option maxHeartbeats 2000000 in
theorem refGive_free {k : Nat} {g : Int} (h : Rp w P ga gc la lc fa fc n K ⟨G, L, fl⟩) (hw : Tw K M ⟨G, L, fl⟩) (hK : K ≤ 4096) (hM : M ≤ 1023) (x : Int) (l1 : -9223372036854775808 ≤ x) (l2 : x ≤ 9223372036854775807) (hl : lookOut ⟨G, L, fl⟩ x = ((k : Int), 0)) (hk : k < K) (hg : G[k]? = some g) (hm : g + 1 ≤ M) :
    Calls Tryd.prog 20 #[.agg #[.slice ga K gc, .slice la K lc, .slice fa n fc, .int .i64 M], .int .i64 x] w (RefGive P K M (⟨G.set k (g + 1), L.set k false, (k : Int) :: fl⟩, 0) w) := by
  have hgb1 := hw.gen k g hg
  have hn4 : n ≤ 4096 := by have h1 := hw.sum; have h2 : fl.length = n := h.free.len; have h3 : fl.length + L.count true ≤ K := h1; omega
  obtain ⟨gb, go, e, hgb, hgc⟩ := h.gens.head (by omega)
  subst e
  have cg := hgc k g hg
  obtain ⟨W, hW⟩ : ∃ W, W = boxed w (.slice (some ⟨gb, go, none⟩) K gc) (.slice la K lc) (.slice fa n fc) (.int .i64 M) := ⟨_, rfl⟩
  have bW := boxed_below w (.slice (some ⟨gb, go, none⟩) K gc) (.slice la K lc) (.slice fa n fc) (.int .i64 M)
  have sW := boxed_size w (.slice (some ⟨gb, go, none⟩) K gc) (.slice la K lc) (.slice fa n fc) (.int .i64 M)
  have X0 := boxed_x w (.slice (some ⟨gb, go, none⟩) K gc) (.slice la K lc) (.slice fa n fc) (.int .i64 M)
  have Z0 := boxed_z w (.slice (some ⟨gb, go, none⟩) K gc) (.slice la K lc) (.slice fa n fc) (.int .i64 M)
  rw [← hW] at bW sW X0 Z0
  have EW := Lib.hid (show (w.alloc (.cells #[.slice (some ⟨gb, go, none⟩) K gc, .slice la K lc, .slice fa n fc, .int .i64 M] 29)).alloc (.cells #[.slice none 0 0, .slice none 0 0, .slice none 0 0, .int .i64 0] 29) = W from hW.symm)
  have HLk := refLook_any (M := M) (h.on bW) hw x l1 l2
  rw [hl] at HLk
  have HL := Lib.hid HLk
  have HX0 := Lib.hid X0
  have HZ0 := Lib.hid Z0
  have HB0 := Lib.hid bW
  have HS := Lib.hid sW
  have HH := Lib.hid h
  have CG0 := Lib.hid ((bW.cell (p := ⟨gb, go + k, none⟩) hgb).trans cg)
  have wg : IntKind.i64.wrap (g + 1) = g + 1 := IntWalk.i64_in _ (by omega)
  have dm : decide (g + 1 ≤ M) = true := decide_eq_true hm
  have hKm := h.gens.max
  clear h hgc bW hW sW X0 Z0 cg HLk hl hw
  go_enter Tryd.func20, Tryd.ntmps20
  go_wp2_with fail
  rw [EW.out]
  refine HL.out.mono ?_
  rintro e w1 ⟨rfl, b1⟩
  have HX := Lib.hid (HX0.out.below b1)
  have HZ := Lib.hid (HZ0.out.below b1)
  have HB := Lib.hid (belowT HB0.out b1)
  have HS1 : Hid (w.heap.size + 2 ≤ w1.heap.size) := Lib.hid (by have := HS.out; have := b1.size; omega)
  have cg := (b1.cell (p := ⟨gb, go + k, none⟩) (lt_of_cell (p := ⟨gb, go + k, none⟩) CG0.out)).trans CG0.out
  have HC : Hid (∀ v, Below w1.heap.size w1 v → Calls Tryd.prog 28 #[.agg #[.slice (some ⟨gb, go, none⟩) K gc, .slice la K lc, .slice fa n fc, .int .i64 M], .int .i64 (k : Int), .int .i64 (g + 1), .bool false] v (WithEnds K n fa fc M (G.set k (g + 1)) (L.set k false) v)) :=
    Lib.hid (fun v hv => refWith_any (w := v) (gc := gc) (lc := lc) (fa := fa) (fc := fc) (n := n) (M := M) ((HH.out.gens.on HB.out).on hv) ((HH.out.live.on HB.out).on hv) k hk hK (g + 1) (by omega) false)
  obtain ⟨p0, p1, p2, p3, pf0, pf1, pf2, pf3⟩ := HX.out
  have kW := (show w1.cell? ⟨w.heap.size, 0, none⟩ = some (.slice (some ⟨gb, go, none⟩) K gc) ∧ w1.cell? ⟨w.heap.size, 1, none⟩ = some (.slice la K lc) ∧ w1.cell? ⟨w.heap.size, 2, none⟩ = some (.slice fa n fc) ∧ w1.cell? ⟨w.heap.size, 3, none⟩ = some (.int .i64 M) ∧ w1.cell? ⟨gb, go + k, none⟩ = some (.int .i64 g) from ⟨p0, p1, p2, p3, cg⟩)
  have kD := keep5 (belowD (Below.refl w1.heap.size w1)) kW
  have kA := keep5 (below1 w1.drew (.cells #[.slice none 0 0, .slice none 0 0, .slice none 0 0, .int .i64 0] 29)) kD
  clear b1 EW HL HX0 HZ0 CG0
  go_wp2_with fail
  go_region_held3 (fun w' => w'.cell? ⟨w.heap.size, 0, none⟩ = some (.slice (some ⟨gb, go, none⟩) K gc) ∧ w'.cell? ⟨w.heap.size, 1, none⟩ = some (.slice la K lc) ∧ w'.cell? ⟨w.heap.size, 2, none⟩ = some (.slice fa n fc) ∧ w'.cell? ⟨w.heap.size, 3, none⟩ = some (.int .i64 M) ∧ w'.cell? ⟨gb, go + k, none⟩ = some (.int .i64 g))
    (first | with_reducible exact kD | with_reducible exact kA | with_reducible exact k5 | with_reducible exact keep5 (below1 _ _) k5 | with_reducible exact keep5y (w := w1) (but_four _ _ _ _ _ _) kW k5 | with_reducible exact kW | go_keep)
    (first
      | (go_at_call 28; refine (HC.out _ (by first | exact belowD (Below.refl _ _) | exact (belowD (Below.refl _ _)).alloc (Nat.le_refl _) _)).mono ?_; rintro e w5 ⟨g1, c1, g2, c2, rfl, i5, l5, a5, d5, b5⟩; first | (have k5 := keep5 b5 kD) | (have k5 := keep5 b5 kA; have ZY : Bv w5 w1.heap.size (.slice none 0 0) (.slice none 0 0) (.slice none 0 0) (.int .i64 0) := (Bv.new w1.drew (.slice none 0 0) (.slice none 0 0) (.slice none 0 0) (.int .i64 0)).below b5; obtain ⟨y0, y1, y2, y3, yf0, yf1, yf2, yf3⟩ := ZY)))
  all_goals
    have c6 := k5.2.2.2.2
    first
      | (have NX := Yw.behind (W := w1) (n := n) (fa := fa) (fc := fc) (M := M) b5 i5 l5 a5 d5; have cg6 := ((below1 w5 (.cells #[.slice (some ⟨g1, 0, none⟩) K c1, .slice (some ⟨g2, 0, none⟩) K c2, .slice fa n fc, .int .i64 M] 29)).cell (p := ⟨gb, go + k, none⟩) (lt_of_cell (p := ⟨gb, go + k, none⟩) c6)).trans c6; generalize w5.alloc (.cells #[.slice (some ⟨g1, 0, none⟩) K c1, .slice (some ⟨g2, 0, none⟩) K c2, .slice fa n fc, .int .i64 M] 29) = w6 at NX cg6 ⊢; generalize w5.heap.size = Y at NX ⊢)
      | (have NX := Yw.ahead (W := w1) (n := n) (fa := fa) (fc := fc) (M := M) b5 i5 l5 a5 d5; have cg6 := (NX.below.cell (p := ⟨gb, go + k, none⟩) (lt_of_cell (p := ⟨gb, go + k, none⟩) cg)).trans cg; generalize (((w5.setCell ⟨w1.heap.size, 0, none⟩ (.slice (some ⟨g1, 0, none⟩) K c1)).setCell ⟨w1.heap.size, 1, none⟩ (.slice (some ⟨g2, 0, none⟩) K c2)).setCell ⟨w1.heap.size, 2, none⟩ (.slice fa n fc)).setCell ⟨w1.heap.size, 3, none⟩ (.int .i64 M) = w6 at NX cg6 ⊢; generalize hY : w1.heap.size = Y at NX ⊢)
    have N := Lib.hid NX
    have hsY : Hid (w.heap.size + 2 ≤ Y) := Lib.hid (by have := NX.later; have := HS1.out; omega)
    clear b5 i5 l5 a5 d5 k5 c6 kW kD kA NX
    try clear y0 y1 y2 y3 yf0 yf1 yf2 yf3
    try clear hY
    clear p0 p1 p2 p3 pf0 pf1 pf2 pf3 cg
    obtain ⟨x0, x1, x2, x3, xf0, xf1, xf2, xf3⟩ := HX.out.below N.out.below
    go_wp2_with fail
    go_quiet (fail)

    have N7 := Lib.hid (N.out.drewN nq)
    have B7 : Hid (Below w1.heap.size w1 (w6.drewN nq)) := Lib.hid (belowN N.out.below nq)
    have hs7 : (w6.drewN nq).heap.size = w6.heap.size := rfl
    clear x0 x1 x2 x3 xf0 xf1 xf2 xf3 cg6 N
    generalize w6.drewN nq = w7 at N7 B7 hs7 ⊢
    clear hs7
    have hs6 : w.heap.size + 2 ≤ Y := hsY.out
    obtain ⟨m0, m1, m2, m3, mf0, mf1, mf2, mf3⟩ := N7.out.lv
    obtain ⟨x0, x1, x2, x3, xf0, xf1, xf2, xf3⟩ := HX.out.below B7.out
    have ownA : (w7.alloc (.cells #[.int .i64 (k : Int)] 3)).ownsRow w7.heap.size 3 1 (.slice (some ⟨w7.heap.size, 0, none⟩) 1 1) 1 (([(k : Int)] : List Int).map (Value.int .i64)) := World.ownsRow_lit w7 #[.int .i64 (k : Int)] 1 (Nat.le_refl _) (by unfold maxLen; omega) rfl
    have fr7 : Ints w7 w7.heap.size fa n fl := (HH.out.free.on HB.out).on B7.out
    obtain ⟨f, fcap, w8, hrun, hown, b8⟩ := app_ints (c := fc) ownA (fr7.on (below1 w7 (.cells #[.int .i64 (k : Int)] 3))) (by simp) (by omega) 26
    have bb8 : Below w7.heap.size w7 w8 := (below1 w7 _).trans b8
    have hfit : ∀ y ∈ [(k : Int)] ++ fl, -9223372036854775808 ≤ y ∧ y ≤ 9223372036854775807 := fun y hy => by
      rcases List.mem_append.1 hy with e | e
      · rw [List.mem_singleton.1 e]; omega
      · exact fr7.2.2.1 y e
    obtain ⟨I8, hI8⟩ := ints_own hown (by omega) hfit
    obtain ⟨N, hN⟩ : ∃ N, N = 1 + n := ⟨_, rfl⟩
    rw [← hN] at hrun hown I8 hI8
    have hf := hown.lt f rfl
    have x2a := ((below1 w7 (.cells #[.int .i64 (k : Int)] 3)).cell (p := ⟨w.heap.size, 2, none⟩) (lt_of_cell (p := ⟨w.heap.size, 2, none⟩) x2)).trans x2
    obtain ⟨u0, u1, u2, u3, uf0, uf1, uf2, uf3⟩ := N7.out.lv.below bb8
    obtain ⟨z0, z1, z2, z3, zf0, zf1, zf2, zf3⟩ := (HZ.out.below B7.out).below bb8
    have HI8 := Lib.hid I8
    have HC8 := Lib.hid hI8
    have HF8 : Hid (w7.heap.size ≤ f ∧ f < w8.heap.size) := Lib.hid hf
    have B8 := Lib.hid bb8
    have R := Lib.hid hrun
    clear ownA fr7 hrun hown b8 bb8 hfit I8 hI8 hN hf x0 x1 x3 xf0 xf1 xf2 xf3
    go_wp2_with (at_builtin; refine wpList_append_run rfl _ _ rfl rfl rfl rfl R.out ?_)
    have hY7 := N7.out.lv.size
    have bY := but_one w8 Y 2 (.slice (some ⟨f, 0, none⟩) N fcap)
    obtain ⟨r0, r1, r2, r3, _, _, _, _⟩ := (((HZ.out.below B7.out).below B8.out).but bY (fun e => by omega)).set (.slice (some ⟨g1, 0, none⟩) K c1) (.slice (some ⟨g2, 0, none⟩) K c2) (.slice (some ⟨f, 0, none⟩) N fcap) (.int .i64 M)
    unfold set4 at r0 r1 r2 r3
    refine bodyPost_ret (v := .tuple #[.agg #[.slice (some ⟨g1, 0, none⟩) K c1, .slice (some ⟨g2, 0, none⟩) K c2, .slice (some ⟨f, 0, none⟩) N fcap, .int .i64 M], .int .i64 0]) (by simp [results, Tryd.results20, go_sem, r0, r1, r2, r3]) rfl ?_
    have bX := but_four (w8.setCell ⟨Y, 2, none⟩ (.slice (some ⟨f, 0, none⟩) N fcap)) (w.heap.size + 1) (.slice (some ⟨g1, 0, none⟩) K c1) (.slice (some ⟨g2, 0, none⟩) K c2) (.slice (some ⟨f, 0, none⟩) N fcap) (.int .i64 M)
    have q1 := N7.out.h1
    have q2 := N7.out.h2
    have q3 := HF8.out
    have qs := HS1.out
    have qb := B8.out.size
    have B8w : Below w.heap.size w w8 := belowT (belowT HB.out B7.out) B8.out
    have rp : Rp w8 (fun i => P i ∨ i = g1 ∨ i = g2 ∨ i = f) (some ⟨g1, 0, none⟩) c1 (some ⟨g2, 0, none⟩) c2 (some ⟨f, 0, none⟩) fcap N K ⟨G.set k (g + 1), L.set k false, (k : Int) :: fl⟩ :=
      ⟨N7.out.ig.on B8.out, N7.out.il.on B8.out, HI8.out, q1.2.2.1, q2.2.2.1, HC8.out, fun i hi => by
        rcases hi with q | q | q | q
        · exact Nat.lt_of_lt_of_le (HH.out.lt i q) B8w.size
        · omega
        · omega
        · omega, fun _ => ⟨g1, 0, rfl, Or.inr (Or.inl rfl)⟩, fun _ => ⟨g2, 0, rfl, Or.inr (Or.inr (Or.inl rfl))⟩, fun _ => ⟨f, 0, rfl, Or.inr (Or.inr (Or.inr rfl))⟩⟩
    have B9 : Below w.heap.size w (w8.setCell ⟨Y, 2, none⟩ (.slice (some ⟨f, 0, none⟩) N fcap)) := B8w.trans (bY.one B8w.size (by omega))
    refine ⟨_, _, _, _, _, _, _, fun i => P i ∨ i = g1 ∨ i = g2 ∨ i = f, rfl, (rp.but bY (fun i hi e => ?_)).but bX (fun i hi e => ?_), B9.trans (bX.one B9.size (by omega)), fun i hi => ?_⟩
    · rcases hi with q | q | q | q
      · have := HH.out.lt i q; omega
      · omega
      · omega
      · omega
    · rcases hi with q | q | q | q
      · have := HH.out.lt i q; omega
      · omega
      · omega
      · omega
    · rcases hi with q | q | q | q
      · exact Or.inl q
      · exact Or.inr (by omega)
      · exact Or.inr (by omega)
      · exact Or.inr (by omega)
set_option maxRecDepth 20000 in
set_option maxHeartbeats 2000000 in
theorem refGive_spent {k : Nat} {g : Int} (h : Rp w P ga gc la lc fa fc n K ⟨G, L, fl⟩) (hw : Tw K M ⟨G, L, fl⟩) (hK : K ≤ 4096) (hM : M ≤ 1023) (x : Int) (l1 : -9223372036854775808 ≤ x) (l2 : x ≤ 9223372036854775807) (hl : lookOut ⟨G, L, fl⟩ x = ((k : Int), 0)) (hk : k < K) (hg : G[k]? = some g) (hm : ¬ g + 1 ≤ M) :
    Calls Tryd.prog 20 #[.agg #[.slice ga K gc, .slice la K lc, .slice fa n fc, .int .i64 M], .int .i64 x] w (RefGive P K M (⟨G.set k (g + 1), L.set k false, fl⟩, 0) w) := by
  have hgb1 := hw.gen k g hg
  have hn4 : n ≤ 4096 := by have h1 := hw.sum; have h2 : fl.length = n := h.free.len; have h3 : fl.length + L.count true ≤ K := h1; omega
  obtain ⟨gb, go, e, hgb, hgc⟩ := h.gens.head (by omega)
  subst e
  have cg := hgc k g hg
  obtain ⟨W, hW⟩ : ∃ W, W = boxed w (.slice (some ⟨gb, go, none⟩) K gc) (.slice la K lc) (.slice fa n fc) (.int .i64 M) := ⟨_, rfl⟩
  have bW := boxed_below w (.slice (some ⟨gb, go, none⟩) K gc) (.slice la K lc) (.slice fa n fc) (.int .i64 M)
  have sW := boxed_size w (.slice (some ⟨gb, go, none⟩) K gc) (.slice la K lc) (.slice fa n fc) (.int .i64 M)
  have X0 := boxed_x w (.slice (some ⟨gb, go, none⟩) K gc) (.slice la K lc) (.slice fa n fc) (.int .i64 M)
  have Z0 := boxed_z w (.slice (some ⟨gb, go, none⟩) K gc) (.slice la K lc) (.slice fa n fc) (.int .i64 M)
  rw [← hW] at bW sW X0 Z0
  have EW := Lib.hid (show (w.alloc (.cells #[.slice (some ⟨gb, go, none⟩) K gc, .slice la K lc, .slice fa n fc, .int .i64 M] 29)).alloc (.cells #[.slice none 0 0, .slice none 0 0, .slice none 0 0, .int .i64 0] 29) = W from hW.symm)
  have HLk := refLook_any (M := M) (h.on bW) hw x l1 l2
  rw [hl] at HLk
  have HL := Lib.hid HLk
  have HX0 := Lib.hid X0
  have HZ0 := Lib.hid Z0
  have HB0 := Lib.hid bW
  have HS := Lib.hid sW
  have HH := Lib.hid h
  have CG0 := Lib.hid ((bW.cell (p := ⟨gb, go + k, none⟩) hgb).trans cg)
  have wg : IntKind.i64.wrap (g + 1) = g + 1 := IntWalk.i64_in _ (by omega)
  have dm : decide (g + 1 ≤ M) = false := decide_eq_false hm
  have hKm := h.gens.max
  clear h hgc bW hW sW X0 Z0 cg HLk hl hw
  go_enter Tryd.func20, Tryd.ntmps20
  go_wp2_with fail
  rw [EW.out]
  refine HL.out.mono ?_
  rintro e w1 ⟨rfl, b1⟩
  have HX := Lib.hid (HX0.out.below b1)
  have HZ := Lib.hid (HZ0.out.below b1)
  have HB := Lib.hid (belowT HB0.out b1)
  have HS1 : Hid (w.heap.size + 2 ≤ w1.heap.size) := Lib.hid (by have := HS.out; have := b1.size; omega)
  have cg := (b1.cell (p := ⟨gb, go + k, none⟩) (lt_of_cell (p := ⟨gb, go + k, none⟩) CG0.out)).trans CG0.out
  have HC : Hid (∀ v, Below w1.heap.size w1 v → Calls Tryd.prog 28 #[.agg #[.slice (some ⟨gb, go, none⟩) K gc, .slice la K lc, .slice fa n fc, .int .i64 M], .int .i64 (k : Int), .int .i64 (g + 1), .bool false] v (WithEnds K n fa fc M (G.set k (g + 1)) (L.set k false) v)) :=
    Lib.hid (fun v hv => refWith_any (w := v) (gc := gc) (lc := lc) (fa := fa) (fc := fc) (n := n) (M := M) ((HH.out.gens.on HB.out).on hv) ((HH.out.live.on HB.out).on hv) k hk hK (g + 1) (by omega) false)
  obtain ⟨p0, p1, p2, p3, pf0, pf1, pf2, pf3⟩ := HX.out
  have kW := (show w1.cell? ⟨w.heap.size, 0, none⟩ = some (.slice (some ⟨gb, go, none⟩) K gc) ∧ w1.cell? ⟨w.heap.size, 1, none⟩ = some (.slice la K lc) ∧ w1.cell? ⟨w.heap.size, 2, none⟩ = some (.slice fa n fc) ∧ w1.cell? ⟨w.heap.size, 3, none⟩ = some (.int .i64 M) ∧ w1.cell? ⟨gb, go + k, none⟩ = some (.int .i64 g) from ⟨p0, p1, p2, p3, cg⟩)
  have kD := keep5 (belowD (Below.refl w1.heap.size w1)) kW
  have kA := keep5 (below1 w1.drew (.cells #[.slice none 0 0, .slice none 0 0, .slice none 0 0, .int .i64 0] 29)) kD
  clear b1 EW HL HX0 HZ0 CG0
  go_wp2_with fail
  go_region_held3 (fun w' => w'.cell? ⟨w.heap.size, 0, none⟩ = some (.slice (some ⟨gb, go, none⟩) K gc) ∧ w'.cell? ⟨w.heap.size, 1, none⟩ = some (.slice la K lc) ∧ w'.cell? ⟨w.heap.size, 2, none⟩ = some (.slice fa n fc) ∧ w'.cell? ⟨w.heap.size, 3, none⟩ = some (.int .i64 M) ∧ w'.cell? ⟨gb, go + k, none⟩ = some (.int .i64 g))
    (first | with_reducible exact kD | with_reducible exact kA | with_reducible exact k5 | with_reducible exact keep5 (below1 _ _) k5 | with_reducible exact keep5y (w := w1) (but_four _ _ _ _ _ _) kW k5 | with_reducible exact kW | go_keep)
    (first
      | (go_at_call 28; refine (HC.out _ (by first | exact belowD (Below.refl _ _) | exact (belowD (Below.refl _ _)).alloc (Nat.le_refl _) _)).mono ?_; rintro e w5 ⟨g1, c1, g2, c2, rfl, i5, l5, a5, d5, b5⟩; first | (have k5 := keep5 b5 kD) | (have k5 := keep5 b5 kA; have ZY : Bv w5 w1.heap.size (.slice none 0 0) (.slice none 0 0) (.slice none 0 0) (.int .i64 0) := (Bv.new w1.drew (.slice none 0 0) (.slice none 0 0) (.slice none 0 0) (.int .i64 0)).below b5; obtain ⟨y0, y1, y2, y3, yf0, yf1, yf2, yf3⟩ := ZY)))
  all_goals
    have c6 := k5.2.2.2.2
    first
      | (have NX := Yw.behind (W := w1) (n := n) (fa := fa) (fc := fc) (M := M) b5 i5 l5 a5 d5; have cg6 := ((below1 w5 (.cells #[.slice (some ⟨g1, 0, none⟩) K c1, .slice (some ⟨g2, 0, none⟩) K c2, .slice fa n fc, .int .i64 M] 29)).cell (p := ⟨gb, go + k, none⟩) (lt_of_cell (p := ⟨gb, go + k, none⟩) c6)).trans c6; generalize w5.alloc (.cells #[.slice (some ⟨g1, 0, none⟩) K c1, .slice (some ⟨g2, 0, none⟩) K c2, .slice fa n fc, .int .i64 M] 29) = w6 at NX cg6 ⊢; generalize w5.heap.size = Y at NX ⊢)
      | (have NX := Yw.ahead (W := w1) (n := n) (fa := fa) (fc := fc) (M := M) b5 i5 l5 a5 d5; have cg6 := (NX.below.cell (p := ⟨gb, go + k, none⟩) (lt_of_cell (p := ⟨gb, go + k, none⟩) cg)).trans cg; generalize (((w5.setCell ⟨w1.heap.size, 0, none⟩ (.slice (some ⟨g1, 0, none⟩) K c1)).setCell ⟨w1.heap.size, 1, none⟩ (.slice (some ⟨g2, 0, none⟩) K c2)).setCell ⟨w1.heap.size, 2, none⟩ (.slice fa n fc)).setCell ⟨w1.heap.size, 3, none⟩ (.int .i64 M) = w6 at NX cg6 ⊢; generalize hY : w1.heap.size = Y at NX ⊢)
    have N := Lib.hid NX
    have hsY : Hid (w.heap.size + 2 ≤ Y) := Lib.hid (by have := NX.later; have := HS1.out; omega)
    clear b5 i5 l5 a5 d5 k5 c6 kW kD kA NX
    try clear y0 y1 y2 y3 yf0 yf1 yf2 yf3
    try clear hY
    clear p0 p1 p2 p3 pf0 pf1 pf2 pf3 cg
    obtain ⟨x0, x1, x2, x3, xf0, xf1, xf2, xf3⟩ := HX.out.below N.out.below
    go_wp2_with fail
    go_quiet (fail)

    have N7 := Lib.hid (N.out.drewN nq)
    have B7 : Hid (Below w1.heap.size w1 (w6.drewN nq)) := Lib.hid (belowN N.out.below nq)
    have hs7 : (w6.drewN nq).heap.size = w6.heap.size := rfl
    clear x0 x1 x2 x3 xf0 xf1 xf2 xf3 cg6 N
    generalize w6.drewN nq = w7 at N7 B7 hs7 ⊢
    clear hs7
    have hs6 : w.heap.size + 2 ≤ Y := hsY.out
    obtain ⟨m0, m1, m2, m3, mf0, mf1, mf2, mf3⟩ := N7.out.lv
    obtain ⟨z0, z1, z2, z3, zf0, zf1, zf2, zf3⟩ := HZ.out.below B7.out
    go_wp2
    obtain ⟨r0, r1, r2, r3, _, _, _, _⟩ := (HZ.out.below B7.out).set (.slice (some ⟨g1, 0, none⟩) K c1) (.slice (some ⟨g2, 0, none⟩) K c2) (.slice fa n fc) (.int .i64 M)
    unfold set4 at r0 r1 r2 r3
    refine bodyPost_ret (v := .tuple #[.agg #[.slice (some ⟨g1, 0, none⟩) K c1, .slice (some ⟨g2, 0, none⟩) K c2, .slice fa n fc, .int .i64 M], .int .i64 0]) (by simp [results, Tryd.results20, go_sem, r0, r1, r2, r3]) rfl ?_
    have bX := but_four w7 (w.heap.size + 1) (.slice (some ⟨g1, 0, none⟩) K c1) (.slice (some ⟨g2, 0, none⟩) K c2) (.slice fa n fc) (.int .i64 M)
    have q1 := N7.out.h1
    have q2 := N7.out.h2
    have qs := HS1.out
    have B8w : Below w.heap.size w w7 := belowT HB.out B7.out
    have fr7 : Ints w7 w7.heap.size fa n fl := HH.out.free.on B8w
    have rp : Rp w7 (fun i => P i ∨ i = g1 ∨ i = g2) (some ⟨g1, 0, none⟩) c1 (some ⟨g2, 0, none⟩) c2 fa fc n K ⟨G.set k (g + 1), L.set k false, fl⟩ :=
      ⟨N7.out.ig, N7.out.il, fr7, q1.2.2.1, q2.2.2.1, HH.out.fc_, fun i hi => by
        rcases hi with q | q | q
        · exact Nat.lt_of_lt_of_le (HH.out.lt i q) B8w.size
        · omega
        · omega, fun _ => ⟨g1, 0, rfl, Or.inr (Or.inl rfl)⟩, fun _ => ⟨g2, 0, rfl, Or.inr (Or.inr rfl)⟩, fun q => by obtain ⟨b, o, e, hp⟩ := HH.out.pf q; exact ⟨b, o, e, Or.inl hp⟩⟩
    refine ⟨_, _, _, _, _, _, _, fun i => P i ∨ i = g1 ∨ i = g2, rfl, rp.but bX (fun i hi e => ?_), B8w.trans (bX.one B8w.size (by omega)), fun i hi => ?_⟩
    · rcases hi with q | q | q
      · have := HH.out.lt i q; omega
      · omega
      · omega
    · rcases hi with q | q | q
      · exact Or.inl q
      · exact Or.inr (by omega)
      · exact Or.inr (by omega)

theorem refGive_any (h : Rp w P ga gc la lc fa fc n K T) (hw : Tw K M T) (hK : K ≤ 4096) (hM : M ≤ 1023) (x : Int) (l1 : -9223372036854775808 ≤ x) (l2 : x ≤ 9223372036854775807) :
    Calls Tryd.prog 20 #[.agg #[.slice ga K gc, .slice la K lc, .slice fa n fc, .int .i64 M], .int .i64 x] w (RefGive P K M (giveOut M T x) w) := by
  by_cases h0 : (lookOut T x).2 = 0
  · obtain ⟨k, g, hk, _, e, _, _, _, hG, hL, hl⟩ := look_ok hw h0
    rw [give_ok_eq hl e hG]
    obtain ⟨G, L, fl⟩ := T
    by_cases hm : g + 1 ≤ M
    · rw [if_pos hm]
      exact refGive_free h hw hK hM x l1 l2 hl hk hG hm
    · rw [if_neg hm]
      exact refGive_spent h hw hK hM x l1 l2 hl hk hG hm
  · rw [give_bad_eq h0]
    exact refGive_bad h hw x l1 l2 h0
end
end Go.Proofs.YtelhhhmmkdbagaaDoor
