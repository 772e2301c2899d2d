/-
  The document's own answers for package move (almeryref15): Do, New: each met by a contract; Do comes to 'actOut'.
-/
import Derived.Test.YtadljlkflmodiaaMoveRefStep
namespace Go.Proofs.Ytadljlkflmodiaa
open Go.ChangeShapes Go.WideShapes Go.ChangeAt Go.RowKit

section
variable {w : World} {b o N c : Nat} {st : Int} {f t s g : Nat} {xs : List Int}
/-- How the document's 'Do' ends. -/
def RefEnds (b N : Nat) (st : Int) (f t s : Nat) (r : MOut) (w : World) (e : Ending) (w' : World) : Prop :=
  ∃ b' o' c', e = .returned (.tuple #[.agg #[.slice (some ⟨b', o', none⟩) N c', .int .i64 (st + ((r.s1 : Int) + (r.s2 : Int))), .int .i64 (f : Int), .int .i64 (t : Int), .int .i64 (s : Int), .int .i64 (r.gone : Int)], .int .i64 (r.told : Int)]) ∧ MF w w' b N b' o' c' r.xs
set_option maxHeartbeats 1000000 in
theorem refDo_any (u : Ac) (hu : u.ok w w.heap.size) (hx : Bytes w w.heap.size (some ⟨b, o, none⟩) N xs) (hc : N ≤ c) (hN : N ≤ 1000) (s0 : 0 ≤ st) (s1 : st ≤ 900000) (hf : f + s ≤ N) (ht : t + s ≤ N) (hg : g ≤ s) (hs : 1 ≤ s) :
    Calls Try.prog 18 #[.agg #[.slice (some ⟨b, o, none⟩) N c, .int .i64 st, .int .i64 (f : Int), .int .i64 (t : Int), .int .i64 (s : Int), .int .i64 (g : Int)], .agg #[.bool u.step, .int .i64 u.at_, .int .i64 u.n, .slice u.ba u.bn u.bc]] w (RefEnds b N st f t s (actOut xs f t s g u) w) := by
  obtain ⟨ha, hn, hy⟩ := hu
  have hl := hy.max
  have HBL := Lib.hid (hx.block_lt (by omega))
  by_cases hst : u.step = true
  · rw [show actOut xs f t s g u = ⟨goes s g u.n, laid xs f t g (goes s g u.n), g + goes s g u.n, 0, goes s g u.n⟩ by unfold actOut; rw [if_pos hst], hst]
    obtain ⟨W, hW⟩ : ∃ W : World, W = (((w.alloc (.cells #[.slice (some ⟨b, o, none⟩) N c, .int .i64 st, .int .i64 (f : Int), .int .i64 (t : Int), .int .i64 (s : Int), .int .i64 (g : Int)] 43)).alloc (.cells #[.bool true, .int .i64 u.at_, .int .i64 u.n, .slice u.ba u.bn u.bc] 48)).alloc (.cells #[.slice none 0 0, .int .i64 0, .int .i64 0, .int .i64 0, .int .i64 0, .int .i64 0] 43)) := ⟨_, rfl⟩
    have bW : Below w.heap.size w W := by rw [hW]; exact below3 w _ _ _
    have sW : W.heap.size = w.heap.size + 3 := by rw [hW]; simp
    have X0 : Cs W w.heap.size [.slice (some ⟨b, o, none⟩) N c, .int .i64 st, .int .i64 (f : Int), .int .i64 (t : Int), .int .i64 (s : Int), .int .i64 (g : Int)] := by rw [hW]; exact (Cs.new w _ _ rfl).below (below2 _ _ _)
    have U0 : Cs W (w.heap.size + 1) [.bool true, .int .i64 u.at_, .int .i64 u.n, .slice u.ba u.bn u.bc] := by rw [hW]; exact ((Cs.new _ _ _ rfl).below (below1 _ _)).at_ (by simp)
    have Z0 : Cs W (w.heap.size + 2) [.slice none 0 0, .int .i64 0, .int .i64 0, .int .i64 0, .int .i64 0, .int .i64 0] := by rw [hW]; exact (Cs.new _ _ _ rfl).at_ (by simp)
    have HC := Lib.hid (refStep_any (f := f) (t := t) (s := s) (g := g) u.n (hx.on bW) hc (by omega) s0 (by omega) hf ht hg)
    generalize goes s g u.n = G at HC ⊢
    have HB := Lib.hid bW
    have HS := Lib.hid sW
    have ZZ := Lib.hid Z0
    clear X0 U0 Z0 hx hc hN s0 s1 hf ht bW sW ha hn hy hl hg hs hst
    have HW := Lib.hid hW.symm
    clear hW
    go_enter Try.func18, Try.ntmps18
    go_wp2_with fail
    rw [HW.out]
    refine HC.out.mono ?_
    rintro e w5 ⟨b', o', cap, rfl, h5⟩
    have Z6 := ZZ.out.below h5.below
    have H5 := Lib.hid h5
    have z0 := Z6.cell 0 _ rfl
    have z1 := Z6.cell 1 _ rfl
    have z2 := Z6.cell 2 _ rfl
    have z3 := Z6.cell 3 _ rfl
    have z4 := Z6.cell 4 _ rfl
    have z5 := Z6.cell 5 _ rfl
    have y0 := Z6.free 0 (by simp)
    have y1 := Z6.free 1 (by simp)
    have y2 := Z6.free 2 (by simp)
    have y3 := Z6.free 3 (by simp)
    have y4 := Z6.free 4 (by simp)
    have y5 := Z6.free 5 (by simp)
    clear h5 Z6 HC
    go_wp2
    refine bodyPost_ret (v := .tuple #[.agg #[.slice (some ⟨b', o', none⟩) N cap, .int .i64 (st + (G : Int)), .int .i64 (f : Int), .int .i64 (t : Int), .int .i64 (s : Int), .int .i64 ((g + G : Nat) : Int)], .int .i64 (G : Int)]) (by simp [results, Try.results18, go_sem, z0, z1, z2, z3, z4, z5]) rfl ?_
    have hb1 : b' ≠ w.heap.size + 2 := by have := HBL.out; have := HS.out; rcases H5.out.from_ with e | e <;> omega
    refine ⟨b', o', cap, by simp, (H5.out.ahead HB.out).put (S := fun i => i = w.heap.size + 2) ?_ (fun i hi => by omega)⟩
    repeat' (with_reducible refine But.setCell ?_ ?_ _)
    all_goals first | with_reducible exact But.refl _ _ | (intro _; with_reducible rfl)
  · have hst' : u.step = false := by simpa using hst
    by_cases hr : 0 ≤ u.at_ ∧ u.at_ + u.bn ≤ (s : Int)
    · obtain ⟨a, hat⟩ : ∃ a : Nat, u.at_ = (a : Int) := ⟨u.at_.toNat, by omega⟩
      rw [show actOut xs f t s g u = ⟨0, laid (splice xs (f + a) u.bs) f t a (again g a u.bn), g, u.bn, again g a u.bn⟩ by unfold actOut; rw [if_neg hst, if_pos hr, hat, Int.toNat_natCast], hst', hat]
      rw [hat] at hr
      have d1 : decide ((a : Int) < 0) = false := by simp
      have d2 : decide ((s : Int) < (u.bn : Int)) = false := by simp; omega
      have d2n : decide (s < u.bn) = false := by simp; omega
      have hw : IntKind.i64.wrap ((s : Int) - (u.bn : Int)) = (s : Int) - (u.bn : Int) := IntWalk.i64_in _ (by omega)
      have d3 : decide ((s : Int) - (u.bn : Int) < (a : Int)) = false := by rw [decide_eq_false_iff_not]; omega
      have hw2 : IntKind.i64.wrap ((f : Int) + (a : Int)) = ((f + a : Nat) : Int) := by rw [IntWalk.i64_in _ (by omega)]; simp
      obtain ⟨W, hW⟩ : ∃ W : World, W = (((w.alloc (.cells #[.slice (some ⟨b, o, none⟩) N c, .int .i64 st, .int .i64 (f : Int), .int .i64 (t : Int), .int .i64 (s : Int), .int .i64 (g : Int)] 43)).alloc (.cells #[.bool false, .int .i64 (a : Int), .int .i64 u.n, .slice u.ba u.bn u.bc] 48)).alloc (.cells #[.slice none 0 0, .int .i64 0, .int .i64 0, .int .i64 0, .int .i64 0, .int .i64 0] 43)) := ⟨_, rfl⟩
      have bW : Below w.heap.size w W := by rw [hW]; exact below3 w _ _ _
      have sW : W.heap.size = w.heap.size + 3 := by rw [hW]; simp
      have X0 : Cs W w.heap.size [.slice (some ⟨b, o, none⟩) N c, .int .i64 st, .int .i64 (f : Int), .int .i64 (t : Int), .int .i64 (s : Int), .int .i64 (g : Int)] := by rw [hW]; exact (Cs.new w _ _ rfl).below (below2 _ _ _)
      have U0 : Cs W (w.heap.size + 1) [.bool false, .int .i64 (a : Int), .int .i64 u.n, .slice u.ba u.bn u.bc] := by rw [hW]; exact ((Cs.new _ _ _ rfl).below (below1 _ _)).at_ (by simp)
      have Z0 : Cs W (w.heap.size + 1 + 1) [.slice none 0 0, .int .i64 0, .int .i64 0, .int .i64 0, .int .i64 0, .int .i64 0] := by rw [hW]; exact (Cs.new _ _ _ rfl).at_ (by simp)
      have HC := Lib.hid (refWrite_ok (some ⟨b, o, none⟩) N c st (f + a) u.ba u.bn u.bc xs u.bs W (hx.on bW) (hy.on bW) (by omega) (by omega) s0 (by omega) (by omega))
      have HR : Hid (∀ (w6 : World) (b1 c1 : Nat), Bytes w6 w6.heap.size (some ⟨b1, 0, none⟩) N (splice xs (f + a) u.bs) → N ≤ c1 → Calls Try.prog 35 #[.agg #[.slice (some ⟨b1, 0, none⟩) N c1, .int .i64 (st + (u.bn : Int)), .int .i64 (f : Int), .int .i64 (t : Int), .int .i64 (s : Int), .int .i64 (g : Int)], .int .i64 (a : Int), .int .i64 (u.bn : Int)] w6
          fun e w' => ∃ b' o' c', e = .returned (.tuple #[.agg #[.slice (some ⟨b', o', none⟩) N c', .int .i64 (st + (u.bn : Int) + ((again g a u.bn : Nat) : Int)), .int .i64 (f : Int), .int .i64 (t : Int), .int .i64 (s : Int), .int .i64 (g : Int)], .int .i64 0]) ∧ MF w6 w' b1 N b' o' c' (laid (splice xs (f + a) u.bs) f t a (again g a u.bn))) :=
        Lib.hid (fun w6 b1 c1 h6 hc6 => refWrote_ok a u.bn h6 hc6 (by omega) (by omega) (by omega) hf ht hg (by omega) hs)
      have HLN : Hid ((splice xs (f + a) u.bs).length = N) := Lib.hid (by rw [length_splice _ _ _ (by rw [hx.len, hy.len]; omega), hx.len])
      generalize again g a u.bn = k at HR ⊢
      have HB := Lib.hid bW
      have HS := Lib.hid sW
      have XX := Lib.hid X0
      have UU := Lib.hid U0
      have ZZ := Lib.hid Z0
      clear X0 U0 Z0 hx hc hN s0 s1 hf ht bW sW ha hn hy hg hs hst hst' hr
      have HW := Lib.hid hW.symm
      clear hW
      go_enter Try.func18, Try.ntmps18
      go_wp2_with fail
      rw [HW.out]
      refine HC.out.mono ?_
      rintro e w5 ⟨b1, cap, rfl, r5, b5, hcap, hg1⟩
      have X6 := fun o : Obj => (XX.out.below b5).below (below1 w5 o)
      have U6 := fun o : Obj => (UU.out.below b5).below (below1 w5 o)
      have x0 := fun o : Obj => (X6 o).cell 0 _ rfl
      have x1 := fun o : Obj => (X6 o).cell 1 _ rfl
      have x2 := fun o : Obj => (X6 o).cell 2 _ rfl
      have x3 := fun o : Obj => (X6 o).cell 3 _ rfl
      have x4 := fun o : Obj => (X6 o).cell 4 _ rfl
      have x5 := fun o : Obj => (X6 o).cell 5 _ rfl
      have v0 := fun o : Obj => (X6 o).free 0 (by simp)
      have v1 := fun o : Obj => (X6 o).free 1 (by simp)
      have u1 := fun o : Obj => (U6 o).cell 1 _ rfl
      have u3 := fun o : Obj => (U6 o).cell 3 _ rfl
      have Z5 := Lib.hid (ZZ.out.below b5)
      have B5 := Lib.hid (belowT HB.out b5)
      have R5 := Lib.hid r5
      have HG := Lib.hid hg1
      have HCP := Lib.hid hcap
      have S5 : Hid (W.heap.size ≤ w5.heap.size) := Lib.hid b5.size
      clear r5 b5 hcap hg1 X6 U6 HC
      go_wp2_with fail
      obtain ⟨w6, hw6⟩ : ∃ w6 : World, w6 = ((w5.alloc (.cells #[.slice (some ⟨b1, 0, none⟩) N cap, .int .i64 (st + (u.bn : Int))] 35)).setCell ⟨w.heap.size, 0, none⟩ (.slice (some ⟨b1, 0, none⟩) N cap)).setCell ⟨w.heap.size, 1, none⟩ (.int .i64 (st + (u.bn : Int))) := ⟨_, rfl⟩
      have hb6 : But (fun i => i = w.heap.size) w5 w6 := by
        rw [hw6]
        exact (((But.refl (fun i => i = w.heap.size) w5).alloc _).setCell (p := ⟨w.heap.size, 0, none⟩) (fun _ => rfl) _).setCell (p := ⟨w.heap.size, 1, none⟩) (fun _ => rfl) _
      have Z6 := Lib.hid (Z5.out.but hb6 (fun e => by omega))
      have B6 := Lib.hid (B5.out.trans (hb6.below B5.out.size (fun k hk e => by omega)))
      have Y6 := ((R5.out.all HLN.out).butAt hb6 (Nat.le_refl _) (by have h1 := HG.out; have h2 := HS.out; omega)).more hb6.size
      have HR6 := Lib.hid (HR.out _ _ _ Y6 HCP.out)
      have S6 : Hid (W.heap.size ≤ w6.heap.size) := Lib.hid (Nat.le_trans S5.out hb6.size)
      have HG6 : Hid (w.heap.size + 3 ≤ b1) := Lib.hid (by have h1 := HG.out; have h2 := HS.out; omega)
      rw [← hw6]
      clear hw6 hb6 Y6 HR x0 x1 x2 x3 x4 x5 v0 v1 u1 u3 Z5 B5 R5
      refine HR6.out.mono ?_
      rintro e w7 ⟨b', o', cap', rfl, h7⟩
      have Z7 := fun o : Obj => (Z6.out.below h7.below).below (below1 w7 o)
      have H7 := Lib.hid h7
      have z0 := fun o : Obj => (Z7 o).cell 0 _ rfl
      have z1 := fun o : Obj => (Z7 o).cell 1 _ rfl
      have z2 := fun o : Obj => (Z7 o).cell 2 _ rfl
      have z3 := fun o : Obj => (Z7 o).cell 3 _ rfl
      have z4 := fun o : Obj => (Z7 o).cell 4 _ rfl
      have z5 := fun o : Obj => (Z7 o).cell 5 _ rfl
      have y0 := fun o : Obj => (Z7 o).free 0 (by simp)
      have y1 := fun o : Obj => (Z7 o).free 1 (by simp)
      have y2 := fun o : Obj => (Z7 o).free 2 (by simp)
      have y3 := fun o : Obj => (Z7 o).free 3 (by simp)
      have y4 := fun o : Obj => (Z7 o).free 4 (by simp)
      have y5 := fun o : Obj => (Z7 o).free 5 (by simp)
      clear h7 Z7 HR6
      go_wp2
      refine bodyPost_ret (v := .tuple #[.agg #[.slice (some ⟨b', o', none⟩) N cap', .int .i64 (st + (u.bn : Int) + (k : Int)), .int .i64 (f : Int), .int .i64 (t : Int), .int .i64 (s : Int), .int .i64 (g : Int)], .int .i64 0]) (by simp [results, Try.results18, go_sem, z0, z1, z2, z3, z4, z5]) rfl ?_
      have hfr : w6.heap.size ≤ b' ∨ b' = b1 := by rcases H7.out.from_ with e | e; exact Or.inr e; exact Or.inl e
      have hlow : w.heap.size + 3 ≤ b' := by have h1 := HG6.out; have h2 := HS.out; have h3 := S6.out; rcases hfr with e | e <;> omega
      have F7 : MF w w7 b N b' o' cap' (laid (splice xs (f + a) u.bs) f t a k) := ⟨H7.out.bytes, H7.out.cap, belowT B6.out H7.out.below, Or.inr (by omega)⟩
      have F8 := F7.more6 (.cells #[.slice (some ⟨b', o', none⟩) N cap', .int .i64 (st + (u.bn : Int) + (k : Int)), .int .i64 (f : Int), .int .i64 (t : Int), .int .i64 (s : Int), .int .i64 (g : Int)] 43)
      refine ⟨b', o', cap', by simp [Int.add_assoc], F8.put (S := fun i => i = w.heap.size + 1 + 1) ?_ (fun i hi => by omega)⟩
      repeat' (with_reducible refine But.setCell ?_ ?_ _)
      all_goals first | with_reducible exact But.refl _ _ | (intro _; with_reducible rfl)
    · rw [show actOut xs f t s g u = ⟨0, xs, g, 0, 0⟩ by unfold actOut; rw [if_neg hst, if_neg hr], hst']
      have HE : Hid (∀ o1 o2 o3 : Obj, MF w (((w.alloc o1).alloc o2).alloc o3) b N b o c xs) := Lib.hid (fun o1 o2 o3 => ⟨hx.on (below3 w o1 o2 o3), hc, below3 w o1 o2 o3, Or.inl rfl⟩)
      generalize u.bn = bn at *
      generalize u.at_ = at_ at *
      clear hx hc hy hst hst' hn hg s0 s1
      by_cases h1 : at_ < 0
      · have d1 : decide (at_ < 0) = true := by simpa using h1
        clear hr
        go_enter Try.func18, Try.ntmps18
        go_wp2
        refine bodyPost_ret (v := .tuple #[.agg #[.slice (some ⟨b, o, none⟩) N c, .int .i64 st, .int .i64 (f : Int), .int .i64 (t : Int), .int .i64 (s : Int), .int .i64 (g : Int)], .int .i64 0]) (by simp [results, Try.results18, go_sem]) rfl ?_
        exact ⟨b, o, c, by simp, HE.out _ _ _⟩
      · have d1 : decide (at_ < 0) = false := by simpa using h1
        by_cases h2 : s < bn
        · have d2 : decide ((s : Int) < (bn : Int)) = true := by simp; omega
          have d2n : decide (s < bn) = true := by simp; omega
          clear hr
          go_enter Try.func18, Try.ntmps18
          go_wp2
          refine bodyPost_ret (v := .tuple #[.agg #[.slice (some ⟨b, o, none⟩) N c, .int .i64 st, .int .i64 (f : Int), .int .i64 (t : Int), .int .i64 (s : Int), .int .i64 (g : Int)], .int .i64 0]) (by simp [results, Try.results18, go_sem]) rfl ?_
          exact ⟨b, o, c, by simp, HE.out _ _ _⟩
        · have d2 : decide ((s : Int) < (bn : Int)) = false := by simp; omega
          have d2n : decide (s < bn) = false := by simp; omega
          have hw : IntKind.i64.wrap ((s : Int) - (bn : Int)) = (s : Int) - (bn : Int) := IntWalk.i64_in _ (by omega)
          have d3 : decide ((s : Int) - (bn : Int) < at_) = true := by rw [decide_eq_true_iff]; omega
          clear hr
          go_enter Try.func18, Try.ntmps18
          go_wp2
          refine bodyPost_ret (v := .tuple #[.agg #[.slice (some ⟨b, o, none⟩) N c, .int .i64 st, .int .i64 (f : Int), .int .i64 (t : Int), .int .i64 (s : Int), .int .i64 (g : Int)], .int .i64 0]) (by simp [results, Try.results18, go_sem]) rfl ?_
          exact ⟨b, o, c, by simp, HE.out _ _ _⟩

theorem refMoveNew_bad (a : Option Addr) (f t s : Int) (w : World) (hN : N ≤ 4194304) (hs : -9223372036854775808 ≤ s ∧ s ≤ 9223372036854775807) (hn : ¬ mayMove N f t s) :
    Calls Try.prog 16 #[.agg #[.slice a N c, .int .i64 st], .int .i64 f, .int .i64 t, .int .i64 s] w
      fun e w' => e = .returned (.tuple #[.agg #[.slice none 0 0, .int .i64 0, .int .i64 0, .int .i64 0, .int .i64 0, .int .i64 0], .int .i64 1]) ∧ Below w.heap.size w w' := by
  by_cases h1 : s < 1
  · have d1 : decide (s < 1) = true := by simpa using h1
    clear hn
    go_enter Try.func16, Try.ntmps16
    go_wp2
    refine bodyPost_ret (v := .tuple #[.agg #[.slice none 0 0, .int .i64 0, .int .i64 0, .int .i64 0, .int .i64 0, .int .i64 0], .int .i64 1]) (by simp [results, Try.results16, go_sem]) rfl ?_
    exact ⟨rfl, below2 w _ _⟩
  · have d1 : decide (s < 1) = false := by simpa using h1
    have HI := Lib.hid (fun at_ (v : World) => refIn_any a N c st at_ s v hN (by omega))
    by_cases h2 : 0 ≤ f ∧ f + s ≤ (N : Int)
    · have e2 : Hid (decide (0 ≤ f ∧ f + s ≤ (N : Int)) = true) := Lib.hid (by simpa using h2)
      by_cases h3 : 0 ≤ t ∧ t + s ≤ (N : Int)
      · have e3 : Hid (decide (0 ≤ t ∧ t + s ≤ (N : Int)) = true) := Lib.hid (by simpa using h3)
        have h4 : ¬ (f + s ≤ t ∨ t + s ≤ f) := fun q => hn ⟨by omega, h2, h3, q⟩
        have hw1 : IntKind.i64.wrap (t + s) = t + s := IntWalk.i64_in _ (by omega)
        have hw2 : IntKind.i64.wrap (f + s) = f + s := IntWalk.i64_in _ (by omega)
        have d4 : decide (f < t + s) = true := by rw [decide_eq_true_iff]; omega
        have d5 : decide (t < f + s) = true := by rw [decide_eq_true_iff]; omega
        clear hn h1 h2 h3 h4
        go_enter Try.func16, Try.ntmps16
        go_wp2_with fail
        refine (HI.out f _).mono ?_
        rw [e2.out]
        rintro e w' ⟨rfl, rfl⟩
        go_wp2_with fail
        refine (HI.out t _).mono ?_
        rw [e3.out]
        rintro e w' ⟨rfl, rfl⟩
        go_wp2
        refine bodyPost_ret (v := .tuple #[.agg #[.slice none 0 0, .int .i64 0, .int .i64 0, .int .i64 0, .int .i64 0, .int .i64 0], .int .i64 1]) (by simp [results, Try.results16, go_sem]) rfl ?_
        exact ⟨rfl, below4 w _ _ _ _⟩
      · have e3 : Hid (decide (0 ≤ t ∧ t + s ≤ (N : Int)) = false) := Lib.hid (by rw [decide_eq_false_iff_not]; exact h3)
        clear hn h1 h2 h3
        go_enter Try.func16, Try.ntmps16
        go_wp2_with fail
        refine (HI.out f _).mono ?_
        rw [e2.out]
        rintro e w' ⟨rfl, rfl⟩
        go_wp2_with fail
        refine (HI.out t _).mono ?_
        rw [e3.out]
        rintro e w' ⟨rfl, rfl⟩
        go_wp2
        refine bodyPost_ret (v := .tuple #[.agg #[.slice none 0 0, .int .i64 0, .int .i64 0, .int .i64 0, .int .i64 0, .int .i64 0], .int .i64 1]) (by simp [results, Try.results16, go_sem]) rfl ?_
        exact ⟨rfl, below4 w _ _ _ _⟩
    · have e2 : Hid (decide (0 ≤ f ∧ f + s ≤ (N : Int)) = false) := Lib.hid (by rw [decide_eq_false_iff_not]; exact h2)
      clear hn h1 h2
      go_enter Try.func16, Try.ntmps16
      go_wp2_with fail
      refine (HI.out f _).mono ?_
      rw [e2.out]
      rintro e w' ⟨rfl, rfl⟩
      go_wp2
      refine bodyPost_ret (v := .tuple #[.agg #[.slice none 0 0, .int .i64 0, .int .i64 0, .int .i64 0, .int .i64 0, .int .i64 0], .int .i64 1]) (by simp [results, Try.results16, go_sem]) rfl ?_
      exact ⟨rfl, below3 w _ _ _⟩
theorem refMoveNew_ok (a : Option Addr) (f t s : Int) (w : World) (hN : N ≤ 4194304) (hn : mayMove N f t s) :
    Calls Try.prog 16 #[.agg #[.slice a N c, .int .i64 st], .int .i64 f, .int .i64 t, .int .i64 s] w
      fun e w' => e = .returned (.tuple #[.agg #[.slice a N c, .int .i64 st, .int .i64 f, .int .i64 t, .int .i64 s, .int .i64 0], .int .i64 0]) ∧ Below w.heap.size w w' := by
  obtain ⟨h1, h2, h3, h4⟩ := hn
  have d1 : decide (s < 1) = false := by rw [decide_eq_false_iff_not]; omega
  have HI := Lib.hid (fun at_ (v : World) => refIn_any a N c st at_ s v hN (by omega))
  have e2 : Hid (decide (0 ≤ f ∧ f + s ≤ (N : Int)) = true) := Lib.hid (by simpa using h2)
  have e3 : Hid (decide (0 ≤ t ∧ t + s ≤ (N : Int)) = true) := Lib.hid (by simpa using h3)
  have hw1 : IntKind.i64.wrap (t + s) = t + s := IntWalk.i64_in _ (by omega)
  have hw2 : IntKind.i64.wrap (f + s) = f + s := IntWalk.i64_in _ (by omega)
  by_cases h5 : f < t + s
  · have d4 : decide (f < t + s) = true := by simpa using h5
    have d5 : decide (t < f + s) = false := by rw [decide_eq_false_iff_not]; omega
    clear h1 h2 h3 h4 h5
    go_enter Try.func16, Try.ntmps16
    go_wp2_with fail
    refine (HI.out f _).mono ?_
    rw [e2.out]
    rintro e w' ⟨rfl, rfl⟩
    go_wp2_with fail
    refine (HI.out t _).mono ?_
    rw [e3.out]
    rintro e w' ⟨rfl, rfl⟩
    go_wp2
    refine bodyPost_ret (v := .tuple #[.agg #[.slice a N c, .int .i64 st, .int .i64 f, .int .i64 t, .int .i64 s, .int .i64 0], .int .i64 0]) (by simp [results, Try.results16, go_sem]) rfl ?_
    exact ⟨rfl, below4 w _ _ _ _⟩
  · have d4 : decide (f < t + s) = false := by simpa using h5
    clear h1 h2 h3 h4 h5
    go_enter Try.func16, Try.ntmps16
    go_wp2_with fail
    refine (HI.out f _).mono ?_
    rw [e2.out]
    rintro e w' ⟨rfl, rfl⟩
    go_wp2_with fail
    refine (HI.out t _).mono ?_
    rw [e3.out]
    rintro e w' ⟨rfl, rfl⟩
    go_wp2
    refine bodyPost_ret (v := .tuple #[.agg #[.slice a N c, .int .i64 st, .int .i64 f, .int .i64 t, .int .i64 s, .int .i64 0], .int .i64 0]) (by simp [results, Try.results16, go_sem]) rfl ?_
    exact ⟨rfl, below4 w _ _ _ _⟩
end
end Go.Proofs.Ytadljlkflmodiaa
