/-
  The closure of package chain that takes a page's bytes off those that are left (cutter$1), met by a contract: the span, and its boxes behind it.
-/
import Derived.Test.YtmamihlilgmnaaaChainNext
import Derived.Deep.RegionHeld3
namespace Go.Proofs.Ytmamihlilgmnaaa
open Go.ChangeShapes Go.WideShapes Go.ChangeAt Go.RowKit

theorem whole_nat {x p : Nat} (hp : 1 ≤ p) : whole (x : Int) (p : Int) = ((x / p : Nat) : Int) := by
  rcases Nat.eq_zero_or_pos x with h | h
  · subst h
    rw [whole_off (.inl (by omega))]
    simp
  · rw [whole_on (by omega) (by omega)]
    simp
/-- The two cells that the region loads, kept by what turns neither. -/
theorem keep2c {w w' : World} {c : Nat} {x p : Value} (hb : Below (c + 3) w w') (h : w.cell? ⟨c, 0, none⟩ = some x ∧ w.cell? ⟨c + 2, 0, none⟩ = some p) : w'.cell? ⟨c, 0, none⟩ = some x ∧ w'.cell? ⟨c + 2, 0, none⟩ = some p :=
  ⟨(hb.cell (p := ⟨c, 0, none⟩) (by show c < c + 3; omega)).trans h.1, (hb.cell (p := ⟨c + 2, 0, none⟩) (by show c + 2 < c + 3; omega)).trans h.2⟩

/-- The span's own variable in the closure, ahead of where its length is laid. -/
structure Sv (w0 : World) (q : Nat) (Q R : Int) (w6 : World) : Prop where
  sv : Cs w6 q [.int .i64 Q, .int .i64 R, .int .i64 0]
  later : w0.heap.size ≤ q
  below : Below w0.heap.size w0 w6
theorem Sv.behind {w0 w5 : World} {Q R : Int} (hb : Below w0.heap.size w0 w5) : Sv w0 w5.heap.size Q R (w5.alloc (.cells #[.int .i64 Q, .int .i64 R, .int .i64 0] 29)) :=
  ⟨Cs.new w5 _ _ rfl, hb.size, hb.alloc hb.size _⟩
theorem Sv.ahead {w0 w5 : World} {Q R : Int} (hb : Below (w0.alloc (.cells #[.int .i64 0, .int .i64 0, .int .i64 0] 29)).heap.size (w0.alloc (.cells #[.int .i64 0, .int .i64 0, .int .i64 0] 29)) w5) :
    Sv w0 w0.heap.size Q R (((w5.setCell ⟨w0.heap.size, 0, none⟩ (.int .i64 Q)).setCell ⟨w0.heap.size, 1, none⟩ (.int .i64 R)).setCell ⟨w0.heap.size, 2, none⟩ (.int .i64 0)) :=
  ⟨((((Cs.new w0 #[.int .i64 0, .int .i64 0, .int .i64 0] 29 rfl).below hb).set 0 _).set 1 _).set 2 _, Nat.le_refl _,
    (((belowT (below1 w0 _) hb).setCell (p := ⟨w0.heap.size, 0, none⟩) (Nat.le_refl _) _).setCell (p := ⟨w0.heap.size, 1, none⟩) (Nat.le_refl _) _).setCell (p := ⟨w0.heap.size, 2, none⟩) (Nat.le_refl _) _⟩

theorem keepL {w0 w5 : World} {c : Nat} {x p : Value} (hb : Below w0.heap.size w0 w5) (hc : c + 3 ≤ w0.heap.size) (h : w5.cell? ⟨c, 0, none⟩ = some x ∧ w5.cell? ⟨c + 2, 0, none⟩ = some p) (o : Obj) : (w5.alloc o).cell? ⟨c, 0, none⟩ = some x ∧ (w5.alloc o).cell? ⟨c + 2, 0, none⟩ = some p :=
  keep2c (((Below.refl _ _).alloc (Nat.le_refl _) o).mono (Nat.le_trans hc hb.size)) h
theorem keepS {w5 : World} {c q : Nat} {x p u0 u1 u2 : Value} (hc : c + 3 ≤ q) (h : w5.cell? ⟨c, 0, none⟩ = some x ∧ w5.cell? ⟨c + 2, 0, none⟩ = some p) :
    (((w5.setCell ⟨q, 0, none⟩ u0).setCell ⟨q, 1, none⟩ u1).setCell ⟨q, 2, none⟩ u2).cell? ⟨c, 0, none⟩ = some x ∧ (((w5.setCell ⟨q, 0, none⟩ u0).setCell ⟨q, 1, none⟩ u1).setCell ⟨q, 2, none⟩ u2).cell? ⟨c + 2, 0, none⟩ = some p :=
  keep2c ((((Below.refl _ _).setCell (p := ⟨q, 0, none⟩) hc _).setCell (p := ⟨q, 1, none⟩) hc _).setCell (p := ⟨q, 2, none⟩) hc _) h
theorem zyA (w0 w5 : World) (hb : Below (w0.alloc (.cells #[.int .i64 0, .int .i64 0, .int .i64 0] 29)).drew.heap.size (w0.alloc (.cells #[.int .i64 0, .int .i64 0, .int .i64 0] 29)).drew w5) : Cs w5 w0.heap.size [.int .i64 0, .int .i64 0, .int .i64 0] :=
  (Cs.new w0 #[.int .i64 0, .int .i64 0, .int .i64 0] 29 rfl).below ⟨hb.os, hb.tape, hb.output, hb.size, hb.block⟩
set_option maxRecDepth 20000 in
set_option maxHeartbeats 1000000 in
theorem next_int (c : Nat) (X N P Q R M : Int) (w : World) (h0 : Cs w c [.int .i64 X]) (h1 : Cs w (c + 1) [.int .i64 N]) (h2 : Cs w (c + 2) [.int .i64 P])
    (hc : ∀ v, Calls Try.prog 22 #[.int .i64 X, .int .i64 P] v fun e w' => e = .returned (.int .i64 Q) ∧ Below v.heap.size v w')
    (hr : X.tmod P = R) (hp : 1 ≤ P) (hp2 : P ≤ 9223372036854775807) (hR : 0 ≤ R ∧ R < P) (hX : 0 ≤ X ∧ X ≤ 16777216) (hN : 0 ≤ N ∧ N ≤ 16777216) (hm : min N (P - R) = M) :
    Calls Try.prog 21 #[.pointer (some ⟨c, 0, none⟩), .pointer (some ⟨c + 2, 0, none⟩), .pointer (some ⟨c + 1, 0, none⟩)] w fun e w' =>
      e = .returned (.agg #[.int .i64 Q, .int .i64 R, .int .i64 M]) ∧ Cs w' c [.int .i64 (X + M)] ∧ Cs w' (c + 1) [.int .i64 (N - M)] ∧ Cs w' (c + 2) [.int .i64 P] ∧ But (fun k => k = c ∨ k = c + 1) w w' := by
  have HC := Lib.hid hc
  have hp0 : ¬ P = 0 := by omega
  have hwr : IntKind.i64.wrap R = R := IntWalk.i64_in _ (by omega)
  have hM : 0 ≤ M ∧ M ≤ N := by omega
  have HM := Lib.hid hm
  have H0 := Lib.hid h0
  have H1 := Lib.hid h1
  have H2 := Lib.hid h2
  have W0 := Lib.hid (below1 w (.cells #[.int .i64 0, .int .i64 0, .int .i64 0] 29))
  have ZW := Lib.hid (Cs.new w #[.int .i64 0, .int .i64 0, .int .i64 0] 29 rfl)
  have hlt := h2.size
  clear h0 h1 h2 hc hm
  go_enter Try.func21, Try.ntmps21
  go_wp2_with fail
  generalize w.alloc (.cells #[.int .i64 0, .int .i64 0, .int .i64 0] 29) = w0 at W0 ZW ⊢
  have hs0 := ZW.out.size
  have A0 := Lib.hid (H0.out.below W0.out)
  have A1 := Lib.hid (H1.out.below W0.out)
  have A2 := Lib.hid (H2.out.below W0.out)
  have hlt0 := A2.out.size
  have kW : w0.cell? ⟨c, 0, none⟩ = some (.int .i64 X) ∧ w0.cell? ⟨c + 2, 0, none⟩ = some (.int .i64 P) := ⟨A0.out.cell 0 _ rfl, A2.out.cell 0 _ rfl⟩
  have kD := keep2c (w' := w0.drew) (belowD (Below.refl _ _)) kW
  have hc3 : c + 3 ≤ w0.drew.heap.size := hlt0
  have hc4 : c + 3 ≤ (w0.alloc (.cells #[.int .i64 0, .int .i64 0, .int .i64 0] 29)).drew.heap.size := Nat.le_trans hlt0 (by simp)
  have l0 : 0 < 1 := by decide
  have l1 : 1 < 3 := by decide
  have l2 : 2 < 3 := by decide
  have kA := keep2c (w' := (w0.alloc (.cells #[.int .i64 0, .int .i64 0, .int .i64 0] 29)).drew) (belowD ((Below.refl _ _).alloc hlt0 _)) kW
  go_region_held3 (fun v => v.cell? ⟨c, 0, none⟩ = some (.int .i64 X) ∧ v.cell? ⟨c + 2, 0, none⟩ = some (.int .i64 P))
    (first | with_reducible exact kD | with_reducible exact kA | with_reducible exact k5 | with_reducible exact kS | with_reducible exact kL | with_reducible exact kW | go_keep)
    (first
      | (go_at_call 22; refine (HC.out _).mono ?_; rintro e w5 ⟨rfl, b5⟩
         first
         | (have k5 := keep2c (Below.mono b5 hc3) kD; have kL := keepL b5 hc3 k5 (.cells #[.int .i64 Q, .int .i64 R, .int .i64 0] 29))
         | (have k5 := keep2c (Below.mono b5 hc4) kA; have kS := keepS (u0 := .int .i64 Q) (u1 := .int .i64 R) (u2 := .int .i64 0) hlt0 k5; have ZY := zyA w0 w5 b5; have y0 := ZY.cell 0 _ rfl; have y1 := ZY.cell 1 _ rfl; have y2 := ZY.cell 2 _ rfl; have yf0 := ZY.free 0 (Nat.succ_pos _); have yf1 := ZY.free 1 l1; have yf2 := ZY.free 2 l2)))
  all_goals
    first
      | (have NX := Sv.behind (Q := Q) (R := R) (show Below w0.heap.size w0 w5 from ⟨b5.os, b5.tape, b5.output, b5.size, b5.block⟩); generalize w5.alloc (.cells #[.int .i64 Q, .int .i64 R, .int .i64 0] 29) = w6 at NX ⊢; generalize w5.heap.size = Y at NX ⊢)
      | (have NX := Sv.ahead (Q := Q) (R := R) (w0 := w0) (w5 := w5) ⟨b5.os, b5.tape, b5.output, b5.size, b5.block⟩; generalize ((w5.setCell ⟨w0.heap.size, 0, none⟩ (.int .i64 Q)).setCell ⟨w0.heap.size, 1, none⟩ (.int .i64 R)).setCell ⟨w0.heap.size, 2, none⟩ (.int .i64 0) = w6 at NX ⊢; generalize w0.heap.size = Y at NX ⊢)
    have N6 := Lib.hid NX
    clear b5 k5 kW kD kA hc3 hc4 NX
    try clear kL
    try clear kS ZY y0 y1 y2 yf0 yf1 yf2
    have x0 := (A0.out.below N6.out.below).cell 0 _ rfl
    have x1 := (A1.out.below N6.out.below).cell 0 _ rfl
    have x2 := (A2.out.below N6.out.below).cell 0 _ rfl
    have xf0 := (A0.out.below N6.out.below).free 0 l0
    have xf1 := (A1.out.below N6.out.below).free 0 l0
    have z0 := (ZW.out.below N6.out.below).cell 0 _ rfl
    have z1 := (ZW.out.below N6.out.below).cell 1 _ rfl
    have z2 := (ZW.out.below N6.out.below).cell 2 _ rfl
    have zf0 := (ZW.out.below N6.out.below).free 0 (by decide)
    have zf1 := (ZW.out.below N6.out.below).free 1 l1
    have zf2 := (ZW.out.below N6.out.below).free 2 l2
    have s0 := N6.out.sv.cell 0 _ rfl
    have s1 := N6.out.sv.cell 1 _ rfl
    have s2 := N6.out.sv.cell 2 _ rfl
    have sf2 := N6.out.sv.free 2 l2
    have hY : c + 3 ≤ Y := Nat.le_trans hlt0 N6.out.later
    have hYw : w.heap.size < Y := by have := N6.out.later; omega
    have hmm := HM.out
    go_wp2
    have ZC : Cs ((((((w6.setCell ⟨Y, 2, none⟩ (.int .i64 M)).setCell ⟨c, 0, none⟩ (.int .i64 (X + M))).setCell ⟨c + 1, 0, none⟩ (.int .i64 (N - M))).setCell ⟨w.heap.size, 0, none⟩ (.int .i64 Q)).setCell ⟨w.heap.size, 1, none⟩ (.int .i64 R)).setCell ⟨w.heap.size, 2, none⟩ (.int .i64 M)) w.heap.size [.int .i64 Q, .int .i64 R, .int .i64 M] :=
      (((((((ZW.out.below N6.out.below).far (p := ⟨Y, 2, none⟩) (by show Y ≠ w.heap.size; omega) _).far (p := ⟨c, 0, none⟩) (by show c ≠ w.heap.size; omega) _).far (p := ⟨c + 1, 0, none⟩) (by show c + 1 ≠ w.heap.size; omega) _).set 0 _).set 1 _).set 2 _)
    have r0 := ZC.cell 0 _ rfl
    have r1 := ZC.cell 1 _ rfl
    have r2 := ZC.cell 2 _ rfl
    refine bodyPost_ret (v := .agg #[.int .i64 Q, .int .i64 R, .int .i64 M]) (by simp [results, Try.results21, go_sem, r0, r1, r2]) rfl ?_
    refine ⟨rfl, ?_, ?_, ?_, ?_⟩
    · exact (((((((A0.out.below N6.out.below).far (p := ⟨Y, 2, none⟩) (by show Y ≠ c; omega) _).set 0 _).far (p := ⟨c + 1, 0, none⟩) (by show c + 1 ≠ c; omega) _).far (p := ⟨w.heap.size, 0, none⟩) (by show w.heap.size ≠ c; omega) _).far (p := ⟨w.heap.size, 1, none⟩) (by show w.heap.size ≠ c; omega) _).far (p := ⟨w.heap.size, 2, none⟩) (by show w.heap.size ≠ c; omega) _)
    · exact (((((((A1.out.below N6.out.below).far (p := ⟨Y, 2, none⟩) (by show Y ≠ c + 1; omega) _).far (p := ⟨c, 0, none⟩) (by show c ≠ c + 1; omega) _).set 0 _).far (p := ⟨w.heap.size, 0, none⟩) (by show w.heap.size ≠ c + 1; omega) _).far (p := ⟨w.heap.size, 1, none⟩) (by show w.heap.size ≠ c + 1; omega) _).far (p := ⟨w.heap.size, 2, none⟩) (by show w.heap.size ≠ c + 1; omega) _)
    · exact (((((((A2.out.below N6.out.below).far (p := ⟨Y, 2, none⟩) (by show Y ≠ c + 2; omega) _).far (p := ⟨c, 0, none⟩) (by show c ≠ c + 2; omega) _).far (p := ⟨c + 1, 0, none⟩) (by show c + 1 ≠ c + 2; omega) _).far (p := ⟨w.heap.size, 0, none⟩) (by show w.heap.size ≠ c + 2; omega) _).far (p := ⟨w.heap.size, 1, none⟩) (by show w.heap.size ≠ c + 2; omega) _).far (p := ⟨w.heap.size, 2, none⟩) (by show w.heap.size ≠ c + 2; omega) _)
    · have b6 : But (fun k => k = c ∨ k = c + 1) w w6 := Below.but (belowT W0.out N6.out.below) _
      exact (((((b6.setCell (p := ⟨Y, 2, none⟩) (fun q => by change Y < _ at q; omega) _).setCell (p := ⟨c, 0, none⟩) (fun _ => Or.inl rfl) _).setCell (p := ⟨c + 1, 0, none⟩) (fun _ => Or.inr rfl) _).setCell (p := ⟨w.heap.size, 0, none⟩) (fun q => by change w.heap.size < _ at q; omega) _).setCell (p := ⟨w.heap.size, 1, none⟩) (fun q => by change w.heap.size < _ at q; omega) _).setCell (p := ⟨w.heap.size, 2, none⟩) (fun q => by change w.heap.size < _ at q; omega) _

/-- How a call ends that hands the next span over. -/
def NextEnds (c p e x : Nat) (w : World) (E : Ending) (w' : World) : Prop :=
  E = .returned (spn p e x).val ∧ Bxs w' c (nxt p e x) (e - nxt p e x) p ∧ But (fun k => k = c ∨ k = c + 1) w w'
theorem next_any (c x e p : Nat) (w : World) (h : Bxs w c x (e - x) p) (hp : 1 ≤ p) (hp2 : p ≤ 9223372036854775807) (hx : x ≤ e) (he : e ≤ 16777216) :
    Calls Try.prog 21 #[.pointer (some ⟨c, 0, none⟩), .pointer (some ⟨c + 2, 0, none⟩), .pointer (some ⟨c + 1, 0, none⟩)] w (NextEnds c p e x w) := by
  obtain ⟨p1, p2, p3⟩ := page_of hp x
  have hn : nxt p e x = min e (x / p * p + p) := by unfold nxt; rw [p3]
  obtain ⟨m, hm⟩ : ∃ m, m = min (e - x) (p - x % p) := ⟨_, rfl⟩
  have e1 : nxt p e x = x + m := by omega
  have e2 : nxt p e x - x = m := by omega
  have e3 : ((e - x : Nat) : Int) - (m : Int) = ((e - nxt p e x : Nat) : Int) := by omega
  have e4 : (x : Int) + (m : Int) = ((nxt p e x : Nat) : Int) := by omega
  have hq : (x : Int).tmod (p : Int) = ((x % p : Nat) : Int) := rfl
  refine (next_int c (x : Int) ((e - x : Nat) : Int) (p : Int) ((x / p : Nat) : Int) ((x % p : Nat) : Int) (m : Int) w h.at_ h.n h.page (fun v => ?_) hq (by omega) (by omega) (by omega) (by omega) (by omega) (by omega)).mono ?_
  · have := whole_any (x : Int) (p : Int) v (by omega)
    rw [whole_nat hp] at this
    exact this.mono fun e w' ⟨a, b⟩ => ⟨a, b.below⟩
  · rintro E w' ⟨rfl, h0, h1, h2, hb⟩
    rw [e4] at h0
    rw [e3] at h1
    refine ⟨?_, ⟨h0, h1, h2⟩, hb⟩
    show _ = Ending.returned (.agg #[.int .i64 ((x / p : Nat) : Int), .int .i64 ((x % p : Nat) : Int), .int .i64 ((nxt p e x - x : Nat) : Int)])
    rw [e2]
end Go.Proofs.Ytmamihlilgmnaaa
