/-
  The document's own answers for package proxy (almeryref10): Take.
-/
import Derived.Test.YtelhhhmmkdbagaaDoorProxyRefWith
import Derived.Test.YtelhhhmmkdbagaaDoorIdentRef
import Derived.Test.YtelhhhmmkdbagaaDoorRegImp
namespace Go.Proofs.YtelhhhmmkdbagaaDoor
open Go.ChangeShapes Go.WideShapes Go.ChangeAt Go.RowKit Go.Deep

/-- Five cells, kept. -/
theorem keep5 {w w' : World} (hb : Below w.heap.size w w') {p0 p1 p2 p3 p4 : Addr} {x0 x1 x2 x3 x4 : Value}
    (h : w.cell? p0 = some x0 ∧ w.cell? p1 = some x1 ∧ w.cell? p2 = some x2 ∧ w.cell? p3 = some x3 ∧ w.cell? p4 = some x4) : w'.cell? p0 = some x0 ∧ w'.cell? p1 = some x1 ∧ w'.cell? p2 = some x2 ∧ w'.cell? p3 = some x3 ∧ w'.cell? p4 = some x4 :=
  ⟨(hb.cell (lt_of_cell h.1)).trans h.1, (hb.cell (lt_of_cell h.2.1)).trans h.2.1, (hb.cell (lt_of_cell h.2.2.1)).trans h.2.2.1, (hb.cell (lt_of_cell h.2.2.2.1)).trans h.2.2.2.1, (hb.cell (lt_of_cell h.2.2.2.2)).trans h.2.2.2.2⟩
theorem keep5y {w w5 w' : World} (hb : But (· = w.heap.size) w5 w') {p0 p1 p2 p3 p4 : Addr} {x0 x1 x2 x3 x4 : Value}
    (h : w.cell? p0 = some x0 ∧ w.cell? p1 = some x1 ∧ w.cell? p2 = some x2 ∧ w.cell? p3 = some x3 ∧ w.cell? p4 = some x4)
    (k : w5.cell? p0 = some x0 ∧ w5.cell? p1 = some x1 ∧ w5.cell? p2 = some x2 ∧ w5.cell? p3 = some x3 ∧ w5.cell? p4 = some x4) : w'.cell? p0 = some x0 ∧ w'.cell? p1 = some x1 ∧ w'.cell? p2 = some x2 ∧ w'.cell? p3 = some x3 ∧ w'.cell? p4 = some x4 := by
  have one : ∀ {p : Addr} {x : Value}, w.cell? p = some x → w5.cell? p = some x → w'.cell? p = some x := fun {p x} a c => (hb.cell (lt_of_cell c) (fun e => by have := lt_of_cell a; omega)).trans c
  exact ⟨one h.1 k.1, one h.2.1 k.2.1, one h.2.2.1 k.2.2.1, one h.2.2.2.1 k.2.2.2.1, one h.2.2.2.2 k.2.2.2.2⟩

/-- Behind 'with': its table in a variable of its own. -/
structure Yw (W : World) (K n : Nat) (fa : Option Addr) (fc : Nat) (M : Int) (G : List Int) (L : List Bool) (g1 c1 g2 c2 Y : Nat) (w6 : World) : Prop where
  below : Below W.heap.size W w6
  lv : Bv w6 Y (.slice (some ⟨g1, 0, none⟩) K c1) (.slice (some ⟨g2, 0, none⟩) K c2) (.slice fa n fc) (.int .i64 M)
  ig : Ints w6 w6.heap.size (some ⟨g1, 0, none⟩) K G
  il : Bools w6 w6.heap.size (some ⟨g2, 0, none⟩) K L
  h1 : W.heap.size ≤ g1 ∧ g1 < w6.heap.size ∧ K ≤ c1 ∧ g1 ≠ Y
  h2 : W.heap.size ≤ g2 ∧ g2 < w6.heap.size ∧ K ≤ c2 ∧ g2 ≠ Y
  later : W.heap.size ≤ Y
section
variable {W w5 : World} {K n fc c1 c2 g1 g2 : Nat} {fa : Option Addr} {M : Int} {G : List Int} {L : List Bool}
theorem Yw.behind (b5 : Below W.drew.heap.size W.drew w5) (ig : Ints w5 w5.heap.size (some ⟨g1, 0, none⟩) K G) (il : Bools w5 w5.heap.size (some ⟨g2, 0, none⟩) K L) (h1 : W.drew.heap.size ≤ g1 ∧ g1 < w5.heap.size ∧ K ≤ c1) (h2 : W.drew.heap.size ≤ g2 ∧ g2 < w5.heap.size ∧ K ≤ c2) :
    Yw W K n fa fc M G L g1 c1 g2 c2 w5.heap.size (w5.alloc (.cells #[.slice (some ⟨g1, 0, none⟩) K c1, .slice (some ⟨g2, 0, none⟩) K c2, .slice fa n fc, .int .i64 M] 29)) := by
  have b4 : Below W.heap.size W w5 := belowT (belowD (Below.refl _ _)) b5
  have hs : (w5.alloc (.cells #[.slice (some ⟨g1, 0, none⟩) K c1, .slice (some ⟨g2, 0, none⟩) K c2, .slice fa n fc, .int .i64 M] 29)).heap.size = w5.heap.size + 1 := by simp
  have e1 : W.drew.heap.size = W.heap.size := rfl
  exact ⟨belowT b4 (below1 w5 _), Bv.new w5 _ _ _ _, ig.on (below1 w5 _), il.on (below1 w5 _), ⟨by omega, by omega, h1.2.2, by omega⟩, ⟨by omega, by omega, h2.2.2, by omega⟩, b4.size⟩
theorem Yw.ahead (b5 : Below (W.drew.alloc (.cells #[.slice none 0 0, .slice none 0 0, .slice none 0 0, .int .i64 0] 29)).heap.size (W.drew.alloc (.cells #[.slice none 0 0, .slice none 0 0, .slice none 0 0, .int .i64 0] 29)) w5) (ig : Ints w5 w5.heap.size (some ⟨g1, 0, none⟩) K G) (il : Bools w5 w5.heap.size (some ⟨g2, 0, none⟩) K L)
    (h1 : (W.drew.alloc (.cells #[.slice none 0 0, .slice none 0 0, .slice none 0 0, .int .i64 0] 29)).heap.size ≤ g1 ∧ g1 < w5.heap.size ∧ K ≤ c1) (h2 : (W.drew.alloc (.cells #[.slice none 0 0, .slice none 0 0, .slice none 0 0, .int .i64 0] 29)).heap.size ≤ g2 ∧ g2 < w5.heap.size ∧ K ≤ c2) :
    Yw W K n fa fc M G L g1 c1 g2 c2 W.heap.size ((((w5.setCell ⟨W.heap.size, 0, none⟩ (.slice (some ⟨g1, 0, none⟩) K c1)).setCell ⟨W.heap.size, 1, none⟩ (.slice (some ⟨g2, 0, none⟩) K c2)).setCell ⟨W.heap.size, 2, none⟩ (.slice fa n fc)).setCell ⟨W.heap.size, 3, none⟩ (.int .i64 M)) := by
  have hs : (W.drew.alloc (.cells #[.slice none 0 0, .slice none 0 0, .slice none 0 0, .int .i64 0] 29)).heap.size = W.heap.size + 1 := by simp
  have b4 : Below W.heap.size W w5 := belowT (belowT (belowD (Below.refl _ _)) (below1 W.drew _)) b5
  have hb := but_four w5 W.heap.size (.slice (some ⟨g1, 0, none⟩) K c1) (.slice (some ⟨g2, 0, none⟩) K c2) (.slice fa n fc) (.int .i64 M)
  have l0 := (Bv.new W.drew (.slice none 0 0) (.slice none 0 0) (.slice none 0 0) (.int .i64 0)).below b5
  have hb' := hb.size
  exact ⟨b4.trans (hb.one b4.size (Nat.le_refl _)), l0.set _ _ _ _, (ig.butAt hb (Nat.le_refl _) (by omega)).more hb.size, (il.butAt hb (Nat.le_refl _) (by omega)).more hb.size, ⟨by omega, by unfold set4 at hb'; omega, h1.2.2, by omega⟩, ⟨by omega, by unfold set4 at hb'; omega, h2.2.2, by omega⟩, Nat.le_refl _⟩
end
theorem set_same {α : Type} {l : List α} {k : Nat} {x : α} (h : l[k]? = some x) : l.set k x = l := by
  obtain ⟨hlt, e⟩ := List.getElem?_eq_some_iff.1 h
  rw [← e]
  exact List.set_getElem_self hlt
section
variable {w : World} {P : Nat → Prop} {ga la fa : Option Addr} {gc lc fc n K : Nat} {M : Int} {T : Tb} {G : List Int} {L : List Bool} {r : List Int}
theorem refTake_none (h : Rp w P ga gc la lc fa fc n K T) (e : T.fl = []) :
    Calls Tryd.prog 21 #[.agg #[.slice ga K gc, .slice la K lc, .slice fa n fc, .int .i64 M]] w (RefTake P K M (T, 0, 0, 4) w) := by
  obtain rfl : n = 0 := by have := h.free.len; rw [e] at this; simpa using this.symm
  have bel : ∀ o1 o2 : Obj, RefTake P K M (T, 0, 0, 4) w (.returned (.tuple #[.agg #[.slice ga K gc, .slice la K lc, .slice fa 0 fc, .int .i64 M], .int .i64 0, .int .i64 0, .int .i64 4])) ((w.alloc o1).alloc o2) := fun o1 o2 => ⟨ga, gc, la, lc, fa, fc, 0, P, rfl, h.on (below2 w o1 o2), below2 w o1 o2, fun _ h => Or.inl h⟩
  have HE := Lib.hid bel
  clear h bel e
  go_enter Tryd.func21, Tryd.ntmps21
  go_wp2
  refine bodyPost_ret (v := .tuple #[.agg #[.slice ga K gc, .slice la K lc, .slice fa 0 fc, .int .i64 M], .int .i64 0, .int .i64 0, .int .i64 4]) (by simp [results, Tryd.results21, go_sem]) rfl ?_
  exact HE.out _ _
set_option maxRecDepth 20000 in
set_option maxHeartbeats 2000000 in
theorem refTake_ok {k : Nat} {g : Int} (h : Rp w P ga gc la lc fa fc n K ⟨G, L, (k : Int) :: r⟩) (hk : k < K) (hK : K ≤ 4096) (hg : G[k]? = some g) (hg1 : 1 ≤ g) (hg2 : g ≤ 1023) :
    Calls Tryd.prog 21 #[.agg #[.slice ga K gc, .slice la K lc, .slice fa n fc, .int .i64 M]] w (RefTake P K M (⟨G, L.set k true, r⟩, 4096 * g + (k : Int), (k : Int), 0) w) := by
  have hlen : r.length + 1 = n := h.free.len
  have hn0 : 0 < n := by omega
  obtain ⟨fb, fo, e, hfb, hfc⟩ := h.free.head hn0
  subst e
  obtain ⟨gb, go, e, hgb, hgc⟩ := h.gens.head (by omega)
  subst e
  have hP : P fb := by
    obtain ⟨b, o', e, q⟩ := h.pf hn0
    injection e with e
    injection e with e1 e2
    subst e1
    exact q
  have c0 := hfc 0 (k : Int) rfl
  rw [Nat.add_zero] at c0
  have cg := hgc k g hg
  obtain ⟨o1, fc1, hfc1, hcut, hI1⟩ := cut_tail h.free (k := 1) (by omega) h.fc_
  have hcut1 : ∀ v, (Instr.sliceAt 26 (.slice (some ⟨fb, fo, none⟩) n fc) (some (.int .i64 1)) none none).run Tryd.prog v = .ok (.slice (some ⟨fb, o1, none⟩) (n - 1) fc1) v := hcut
  have hd1 : ((k : Int) :: r).drop 1 = r := rfl
  rw [hd1] at hI1
  obtain ⟨W, hW⟩ : ∃ W, W = boxed w (.slice (some ⟨gb, go, none⟩) K gc) (.slice la K lc) (.slice (some ⟨fb, fo, none⟩) n fc) (.int .i64 M) := ⟨_, rfl⟩
  have bW := boxed_below w (.slice (some ⟨gb, go, none⟩) K gc) (.slice la K lc) (.slice (some ⟨fb, fo, none⟩) n fc) (.int .i64 M)
  have sW := boxed_size w (.slice (some ⟨gb, go, none⟩) K gc) (.slice la K lc) (.slice (some ⟨fb, fo, none⟩) n fc) (.int .i64 M)
  have X0 := boxed_x w (.slice (some ⟨gb, go, none⟩) K gc) (.slice la K lc) (.slice (some ⟨fb, fo, none⟩) n fc) (.int .i64 M)
  have Z0 := boxed_z w (.slice (some ⟨gb, go, none⟩) K gc) (.slice la K lc) (.slice (some ⟨fb, fo, none⟩) n fc) (.int .i64 M)
  rw [← hW] at bW sW X0 Z0
  have EW := Lib.hid (show (w.alloc (.cells #[.slice (some ⟨gb, go, none⟩) K gc, .slice la K lc, .slice (some ⟨fb, fo, none⟩) n fc, .int .i64 M] 29)).alloc (.cells #[.slice none 0 0, .slice none 0 0, .slice none 0 0, .int .i64 0] 29) = W from hW.symm)
  have HX := Lib.hid X0
  have HZ := Lib.hid Z0
  have HB := Lib.hid bW
  have HS := Lib.hid sW
  have HH := Lib.hid h
  have H1 := Lib.hid hI1
  have HF := Lib.hid hfc1
  have HPb := Lib.hid hP
  have C0 := Lib.hid ((bW.cell (p := ⟨fb, fo, none⟩) hfb).trans c0)
  have CG := Lib.hid ((bW.cell (p := ⟨gb, go + k, none⟩) hgb).trans cg)
  have HC : Hid (∀ v, Below W.heap.size W v → Calls Tryd.prog 28 #[.agg #[.slice (some ⟨gb, go, none⟩) K gc, .slice la K lc, .slice (some ⟨fb, fo, none⟩) n fc, .int .i64 M], .int .i64 (k : Int), .int .i64 g, .bool true] v (WithEnds K n (some ⟨fb, fo, none⟩) fc M G (L.set k true) v)) :=
    Lib.hid (fun v hv => by
      have := refWith_any (w := v) (gc := gc) (lc := lc) (fa := some ⟨fb, fo, none⟩) (fc := fc) (n := n) (M := M) ((h.gens.on bW).on hv) ((h.live.on bW).on hv) k hk hK g (by omega) true
      rwa [show G.set k g = G from set_same hg] at this)
  have HJ := fun v => refJoin_any (k : Int) g v
  obtain ⟨j1, j2⟩ := join_on (mayB_on (x := (k : Int)) (y := g) (by omega))
  rw [j1, j2] at HJ
  have J := Lib.hid HJ
  obtain ⟨hh, eh⟩ : ∃ hh, 4096 * g + (k : Int) = hh := ⟨_, rfl⟩
  rw [eh] at J ⊢
  have hnm := h.free.max
  have e1 : ((n : Int) == 0) = false := beq_eq_false_iff_ne.2 (by omega)
  have hn1 : (0 : Int) < (n : Int) := by omega
  have c0a : ((w.alloc (.cells #[.slice (some ⟨gb, go, none⟩) K gc, .slice la K lc, .slice (some ⟨fb, fo, none⟩) n fc, .int .i64 M] 29)).alloc (.cells #[.slice none 0 0, .slice none 0 0, .slice none 0 0, .int .i64 0] 29)).cell? ⟨fb, fo, none⟩ = some (.int .i64 (k : Int)) := by rw [EW.out]; exact C0.out
  have cga : ((w.alloc (.cells #[.slice (some ⟨gb, go, none⟩) K gc, .slice la K lc, .slice (some ⟨fb, fo, none⟩) n fc, .int .i64 M] 29)).alloc (.cells #[.slice none 0 0, .slice none 0 0, .slice none 0 0, .int .i64 0] 29)).cell? ⟨gb, go + k, none⟩ = some (.int .i64 g) := by rw [EW.out]; exact CG.out
  clear h hcut hI1 hfc hgc bW hP hfc1 hd1 hW sW X0 Z0 HJ j1 j2 eh cg c0
  go_enter Tryd.func21, Tryd.ntmps21
  go_wp2_with fail
  refine (J.out _).mono ?_
  rintro e w' ⟨rfl, rfl⟩
  rw [EW.out]
  obtain ⟨p0, p1, p2, p3, pf0, pf1, pf2, pf3⟩ := HX.out
  have cg := CG.out
  clear c0a cga EW
  have kW := (show W.cell? ⟨w.heap.size, 0, none⟩ = some (.slice (some ⟨gb, go, none⟩) K gc) ∧ W.cell? ⟨w.heap.size, 1, none⟩ = some (.slice la K lc) ∧ W.cell? ⟨w.heap.size, 2, none⟩ = some (.slice (some ⟨fb, fo, none⟩) n fc) ∧ W.cell? ⟨w.heap.size, 3, none⟩ = some (.int .i64 M) ∧ W.cell? ⟨gb, go + k, none⟩ = some (.int .i64 g) from ⟨p0, p1, p2, p3, cg⟩)
  have kD := keep5 (belowD (Below.refl W.heap.size W)) kW
  have kA := keep5 (below1 W.drew (.cells #[.slice none 0 0, .slice none 0 0, .slice none 0 0, .int .i64 0] 29)) kD
  go_wp2_with fail
  go_region_held3 (fun w' => w'.cell? ⟨w.heap.size, 0, none⟩ = some (.slice (some ⟨gb, go, none⟩) K gc) ∧ w'.cell? ⟨w.heap.size, 1, none⟩ = some (.slice la K lc) ∧ w'.cell? ⟨w.heap.size, 2, none⟩ = some (.slice (some ⟨fb, fo, none⟩) n fc) ∧ w'.cell? ⟨w.heap.size, 3, none⟩ = some (.int .i64 M) ∧ w'.cell? ⟨gb, go + k, none⟩ = some (.int .i64 g))
    (first | with_reducible exact kD | with_reducible exact kA | with_reducible exact k5 | with_reducible exact keep5 (below1 _ _) k5 | with_reducible exact keep5y (w := W) (but_four _ _ _ _ _ _) kW k5 | with_reducible exact kW | go_keep)
    (first
      | (go_at_call 28; refine (HC.out _ (by first | exact belowD (Below.refl _ _) | exact (belowD (Below.refl _ _)).alloc (Nat.le_refl _) _)).mono ?_; rintro e w5 ⟨g1, c1, g2, c2, rfl, i5, l5, a5, d5, b5⟩; first | (have k5 := keep5 b5 kD) | (have k5 := keep5 b5 kA; have ZY : Bv w5 W.heap.size (.slice none 0 0) (.slice none 0 0) (.slice none 0 0) (.int .i64 0) := (Bv.new W.drew (.slice none 0 0) (.slice none 0 0) (.slice none 0 0) (.int .i64 0)).below b5; obtain ⟨y0, y1, y2, y3, yf0, yf1, yf2, yf3⟩ := ZY)))
  all_goals
    first
      | (have NX := Yw.behind (W := W) (n := n) (fa := some ⟨fb, fo, none⟩) (fc := fc) (M := M) b5 i5 l5 a5 d5; generalize w5.alloc (.cells #[.slice (some ⟨g1, 0, none⟩) K c1, .slice (some ⟨g2, 0, none⟩) K c2, .slice (some ⟨fb, fo, none⟩) n fc, .int .i64 M] 29) = w6 at NX ⊢; generalize w5.heap.size = Y at NX ⊢)
      | (have NX := Yw.ahead (W := W) (n := n) (fa := some ⟨fb, fo, none⟩) (fc := fc) (M := M) b5 i5 l5 a5 d5; generalize (((w5.setCell ⟨W.heap.size, 0, none⟩ (.slice (some ⟨g1, 0, none⟩) K c1)).setCell ⟨W.heap.size, 1, none⟩ (.slice (some ⟨g2, 0, none⟩) K c2)).setCell ⟨W.heap.size, 2, none⟩ (.slice (some ⟨fb, fo, none⟩) n fc)).setCell ⟨W.heap.size, 3, none⟩ (.int .i64 M) = w6 at NX ⊢; generalize W.heap.size = Y at NX ⊢)
    have N := Lib.hid NX
    obtain ⟨m0, m1, m2, m3, mf0, mf1, mf2, mf3⟩ := NX.lv
    obtain ⟨x0, x1, x2, x3, xf0, xf1, xf2, xf3⟩ := HX.out.below NX.below
    obtain ⟨z0, z1, z2, z3, zf0, zf1, zf2, zf3⟩ := HZ.out.below NX.below
    have hs6 : w.heap.size + 2 ≤ Y := by have := NX.later; have := HS.out; omega
    clear NX b5 i5 l5 a5 d5 k5 kW kD kA
    try clear y0 y1 y2 y3 yf0 yf1 yf2 yf3
    clear p0 p1 p2 p3 pf0 pf1 pf2 pf3 cg
    go_wp2
    have bY := but_one w6 Y 2 (.slice (some ⟨fb, o1, none⟩) (n - 1) fc1)
    obtain ⟨r0, r1, r2, r3, _, _, _, _⟩ := ((HZ.out.below N.out.below).but bY (fun e => by omega)).set (.slice (some ⟨g1, 0, none⟩) K c1) (.slice (some ⟨g2, 0, none⟩) K c2) (.slice (some ⟨fb, o1, none⟩) (n - 1) fc1) (.int .i64 M)
    unfold set4 at r0 r1 r2 r3
    refine bodyPost_ret (v := .tuple #[.agg #[.slice (some ⟨g1, 0, none⟩) K c1, .slice (some ⟨g2, 0, none⟩) K c2, .slice (some ⟨fb, o1, none⟩) (n - 1) fc1, .int .i64 M], .int .i64 hh, .int .i64 (k : Int), .int .i64 0]) (by simp [results, Tryd.results21, go_sem, r0, r1, r2, r3]) rfl ?_
    have bX := but_four (w6.setCell ⟨Y, 2, none⟩ (.slice (some ⟨fb, o1, none⟩) (n - 1) fc1)) (w.heap.size + 1) (.slice (some ⟨g1, 0, none⟩) K c1) (.slice (some ⟨g2, 0, none⟩) K c2) (.slice (some ⟨fb, o1, none⟩) (n - 1) fc1) (.int .i64 M)
    have q1 := N.out.h1
    have q2 := N.out.h2
    have qs := HS.out
    have B6 : Below w.heap.size w w6 := belowT HB.out N.out.below
    have rp : Rp w6 (fun i => P i ∨ i = g1 ∨ i = g2) (some ⟨g1, 0, none⟩) c1 (some ⟨g2, 0, none⟩) c2 (some ⟨fb, o1, none⟩) fc1 (n - 1) K ⟨G, L.set k true, r⟩ :=
      ⟨N.out.ig, N.out.il, H1.out.on B6, q1.2.2.1, q2.2.2.1, HF.out, fun i hi => by
        rcases hi with q | q | q
        · exact Nat.lt_of_lt_of_le (HH.out.lt i q) B6.size
        · omega
        · omega, fun _ => ⟨g1, 0, rfl, Or.inr (Or.inl rfl)⟩, fun _ => ⟨g2, 0, rfl, Or.inr (Or.inr rfl)⟩, fun _ => ⟨fb, o1, rfl, Or.inl HPb.out⟩⟩
    have B7 : Below w.heap.size w (w6.setCell ⟨Y, 2, none⟩ (.slice (some ⟨fb, o1, none⟩) (n - 1) fc1)) := B6.trans (bY.one B6.size (by omega))
    refine ⟨_, _, _, _, _, _, _, fun i => P i ∨ i = g1 ∨ i = g2, rfl, (rp.but bY (fun i hi e => ?_)).but bX (fun i hi e => ?_), B7.trans (bX.one B7.size (by omega)), fun i hi => ?_⟩
    · rcases hi with q | q | q
      · have := HH.out.lt i q; omega
      · omega
      · omega
    · rcases hi with q | q | q
      · have := HH.out.lt i q; omega
      · omega
      · omega
    · rcases hi with q | q | q
      · exact Or.inl q
      · exact Or.inr (by omega)
      · exact Or.inr (by omega)
theorem refTake_any (h : Rp w P ga gc la lc fa fc n K T) (hw : Tw K M T) (hK : K ≤ 4096) (hM : M ≤ 1023) :
    Calls Tryd.prog 21 #[.agg #[.slice ga K gc, .slice la K lc, .slice fa n fc, .int .i64 M]] w (RefTake P K M (takeOut T) w) := by
  obtain ⟨G, L, fl⟩ := T
  cases fl with
  | nil => rw [take_none_eq rfl]; exact refTake_none h rfl
  | cons x r =>
    obtain ⟨k, rfl, hk, g, hg, hgM⟩ := hw.free x (by simp)
    rw [take_ok_eq hg]
    have hk2 : k < K := by rw [← hw.ll]; exact (List.getElem?_eq_some_iff.1 hk).1
    exact refTake_ok h hk2 hK hg (hw.gen k g hg).1 (by omega)
end
end Go.Proofs.YtelhhhmmkdbagaaDoor
