/-
  The law's own 'run' of package pool: whatever acts come in, both pools tell the same, and hold the same at the end.
-/
import Derived.Test.YtmcdobkoedccgaaPoolRun
namespace Go.Proofs.Ytmcdobkoedccgaa
open Go.ChangeShapes Go.WideShapes Go.ChangeAt Go.RowKit Go.Deep

/-- How 'run' ends. -/
def RunEnds (K : Nat) (w : World) (e : Ending) (w' : World) : Prop :=
  ∃ p a O fl oa oc fa fc n P, e = .returned (.tuple #[.pointer (some ⟨p, 0, none⟩), .agg #[.slice oa K oc, .slice fa n fc], .bool true]) ∧ Pm w' p a K O fl ∧ Rp w' P oa oc fa fc n K O fl ∧ Below w.heap.size w w' ∧ (w.heap.size ≤ p ∧ w.heap.size ≤ a) ∧ ∀ i, P i → i ≠ p ∧ i ≠ a

set_option maxRecDepth 20000 in
set_option maxHeartbeats 2000000 in
theorem run08_any (K : Nat) (hK1 : 1 ≤ K) (hK2 : K ≤ 1024) (al : Option Addr) (ll cl : Nat) (l : List Ac) (B : Nat) (w : World) (hB : B ≤ w.heap.size) (hl : Acts w B al ll l) :
    Calls Try.prog 9 #[.int .i64 (K : Int), .slice al ll cl] w (RunEnds K w) := by
  have hmax := hl.max
  obtain ⟨w1, hw1⟩ : ∃ w1, w1 = w.alloc (.cells #[.slice none 0 0, .slice none 0 0] 27) := ⟨_, rfl⟩
  have HW1 := Lib.hid hw1
  have HN1 := Lib.hid (new_ok K w1 hK1 hK2)
  rw [hw1] at HN1
  clear hw1
  go_enter Try.func9, Try.ntmps9
  go_wp2_with fail
  refine HN1.out.mono ?_
  rw [← HW1.out]
  rintro e w2 ⟨p, a, rfl, m2, b2, hp, ha⟩
  have M2 := Lib.hid m2
  have B2 := Lib.hid b2
  have HPA := Lib.hid (show _ ∧ _ from ⟨hp, ha⟩)
  clear m2 b2 hp ha HN1
  have HN2 := Lib.hid (refNew_ok K w2 hK1 hK2)
  go_wp2_with fail
  refine HN2.out.mono ?_
  rintro e w3 ⟨oa, oc, fa, fc, Q, rfl, r3, b3, hQ⟩
  obtain ⟨s0, ly⟩ := Ps.start HW1.out M2.out B2.out HPA.out.1 HPA.out.2 b3 r3 hQ
  have S0 := Lib.hid s0
  have LY := Lib.hid ly
  clear s0 ly r3 b3 hQ HN2 M2 B2 HPA HW1
  go_wp2
  generalize w3.alloc (.cells #[.slice oa K oc, .slice fa K fc] 27) = w30 at S0 ⊢
  generalize w3.heap.size = X at S0 LY ⊢
  obtain ⟨R, hR⟩ : ∃ R, R = w.heap.size := ⟨_, rfl⟩
  have HR := Lib.hid hR
  rw [← hR] at S0 LY ⊢
  clear hR
  go_loopw [11] (fun i wr => ∃ (k : Nat) (O fl : List Int) (oa : Option Addr) (oc : Nat) (fa : Option Addr) (fc n : Nat) (P : Nat → Prop), k ≤ ll ∧ i = .int .i64 k ∧ Ps w p a X R K O fl oa oc fa fc n P wr) (fun i _ => ll - (intOf i).toNat)
  case atStart => exact ⟨0, _, _, _, _, _, _, _, _, by omega, rfl, S0.out⟩
  case round =>
    obtain ⟨k, O, fl, oa, oc, fa, fc, n, P, hk, rfl, hs⟩ := hrel
    have HS := Lib.hid hs
    clear hs S0
    by_cases hlt : k < ll
    · have dk : decide ((k : Int) < (ll : Int)) = true := by simp; omega
      have U1 := Lib.hid (hl.below (HS.out.below.mono hB))
      obtain ⟨b0, o0, rfl, hb0, hc0⟩ := U1.out.head (by omega)
      obtain ⟨u, hu, hfit⟩ := U1.out.at_ hlt
      have y0 : wr.cell? ⟨b0, o0 + k * 2, none⟩ = some (.bool u.give) := hc0 k u hu 0 _ rfl
      have y1 : wr.cell? ⟨b0, o0 + k * 2 + 1, none⟩ = some (.int .i64 u.n) := hc0 k u hu 1 _ rfl
      have HF : Hid (Fit u.n) := Lib.hid hfit
      have hpn : ¬ b0 = p := by have := LY.out.p0; omega
      have han : ¬ b0 = a := by have := LY.out.a0; omega
      clear hc0 hu hfit
      cases hg : u.give with
      | true =>
        rw [hg] at y0
        have HD := Lib.hid (give_any HS.out.pm u.n)
        go_wp2_with fail
        refine HD.out.mono ?_
        rintro e w4 ⟨rfl, r4, b4⟩
        have z1 := (b4.cell (p := ⟨b0, o0 + k * 2 + 1, none⟩) (lt_of_cell (p := ⟨b0, o0 + k * 2 + 1, none⟩) y1) (fun e => by rcases e with e | e; exact hpn e; exact han e)).trans y1
        have L4 := Lib.hid (HS.out.rp.but b4 (fun i hi e => by have := HS.out.far i hi; rcases e with e | e; exact this.2.1 e; exact this.2.2.1 e))
        have V4 := Lib.hid (HS.out.lv.but b4 (fun e => by rcases e with e | e; exact LY.out.xp e; exact LY.out.xa e))
        have HC : Hid (∀ v, Below w4.heap.size w4 v → Calls Try.prog 18 #[.agg #[.slice oa K oc, .slice fa n fc], .int .i64 u.n] v (RefGive P K (giveOut O fl u.n) v)) :=
          Lib.hid (fun v hv => refGive_any (L4.out.on hv) HS.out.pm.wf hK2 u.n)
        generalize giveOut O fl u.n = r at HC r4 ⊢
        have R4 := Lib.hid r4
        have B4 := Lib.hid b4
        obtain ⟨p0, p1, p2, p3⟩ := V4.out
        clear r4 b4 y0 y1 HD
        go_wp2_with fail
        go_region_held3 (fun w' => w'.cell? ⟨X, 0, none⟩ = some (.slice oa K oc) ∧ w'.cell? ⟨X, 1, none⟩ = some (.slice fa n fc) ∧ w'.cell? ⟨b0, o0 + k * 2 + 1, none⟩ = some (.int .i64 u.n))
          (first | exact ⟨p0, p1, z1⟩ | exact k5 | exact keep3 (below1 _ _) k5 | exact keep3y (w := w4) (but_two _ _ _ _) ⟨p0, p1, z1⟩ k5 | exact keep3 (below1 _ _) ⟨p0, p1, z1⟩ | go_keep)
          (first
            | (go_at_call 18; refine (HC.out _ (by first | exact belowD (Below.refl _ _) | exact (belowD (Below.refl _ _)).alloc (Nat.le_refl _) _)).mono ?_; rintro e w5 ⟨oa', oc', fa', fc', n', Q', rfl, l5, b5, q5⟩; first | (have k5 := keep3 (w := w4.drew) b5 ⟨p0, p1, z1⟩) | (have k5 := keep3 b5 (keep3 (below1 w4.drew _) ⟨p0, p1, z1⟩); have ZY : Bv w5 w4.heap.size none 0 0 none 0 0 := (Bv.new w4.drew none 0 0 none 0 0).below b5; obtain ⟨g0, g1, g2, g3⟩ := ZY)))
        all_goals
          first
            | (have NX := Yx.behind (w4 := w4) (P := P) b5 l5 q5; generalize w5.alloc (.cells #[.slice oa' K oc', .slice fa' n' fc'] 27) = w6 at NX ⊢; generalize w5.heap.size = Y at NX ⊢)
            | (have NX := Yx.ahead (w4 := w4) (P := P) L4.out.lt b5 l5 q5; generalize (w5.setCell ⟨w4.heap.size, 0, none⟩ (.slice oa' K oc')).setCell ⟨w4.heap.size, 1, none⟩ (.slice fa' n' fc') = w6 at NX ⊢; generalize w4.heap.size = Y at NX ⊢)
          obtain ⟨m0, m1, m2, m3⟩ := NX.lv
          obtain ⟨x0, x1, x2, x3⟩ := V4.out.below NX.below
          have SN := Lib.hid (HS.out.next LY.out B4.out R4.out NX)
          have hEr : (r.2.2 != r.2.2) = false := by simp
          clear NX b5 l5 q5 k5
          try clear g0 g1 g2 g3
          clear p0 p1 p2 p3 z1
          go_wp2
          go_roundw
          case rel => exact ⟨k + 1, _, _, _, _, _, _, _, _, by omega, by go_num, SN.out⟩
          case measure => simp [intOf]; omega
      | false =>
        rw [hg] at y0
        have HD := Lib.hid (take_any HS.out.pm u.n HF.out)
        go_wp2_with fail
        refine HD.out.mono ?_
        rintro e w4 ⟨rfl, r4, b4⟩
        have z1 := (b4.cell (p := ⟨b0, o0 + k * 2 + 1, none⟩) (lt_of_cell (p := ⟨b0, o0 + k * 2 + 1, none⟩) y1) (fun e => by rcases e with e | e; exact hpn e; exact han e)).trans y1
        have L4 := Lib.hid (HS.out.rp.but b4 (fun i hi e => by have := HS.out.far i hi; rcases e with e | e; exact this.2.1 e; exact this.2.2.1 e))
        have V4 := Lib.hid (HS.out.lv.but b4 (fun e => by rcases e with e | e; exact LY.out.xp e; exact LY.out.xa e))
        have HC : Hid (∀ v, Below w4.heap.size w4 v → Calls Try.prog 19 #[.agg #[.slice oa K oc, .slice fa n fc], .int .i64 u.n] v (RefTake P K (takeOut O fl u.n) v)) :=
          Lib.hid (fun v hv => refTake_any (L4.out.on hv) HS.out.pm.wf hK2 u.n HF.out)
        generalize takeOut O fl u.n = r at HC r4 ⊢
        have R4 := Lib.hid r4
        have B4 := Lib.hid b4
        obtain ⟨p0, p1, p2, p3⟩ := V4.out
        clear r4 b4 y0 y1 HD
        go_wp2_with fail
        go_region_held3 (fun w' => w'.cell? ⟨X, 0, none⟩ = some (.slice oa K oc) ∧ w'.cell? ⟨X, 1, none⟩ = some (.slice fa n fc) ∧ w'.cell? ⟨b0, o0 + k * 2 + 1, none⟩ = some (.int .i64 u.n))
          (first | exact ⟨p0, p1, z1⟩ | exact k5 | exact keep3 (below1 _ _) k5 | exact keep3y (w := w4) (but_two _ _ _ _) ⟨p0, p1, z1⟩ k5 | exact keep3 (below1 _ _) ⟨p0, p1, z1⟩ | go_keep)
          (first
            | (go_at_call 19; refine (HC.out _ (by first | exact belowD (Below.refl _ _) | exact (belowD (Below.refl _ _)).alloc (Nat.le_refl _) _)).mono ?_; rintro e w5 ⟨oa', oc', fa', fc', n', Q', rfl, l5, b5, q5⟩; first | (have k5 := keep3 (w := w4.drew) b5 ⟨p0, p1, z1⟩) | (have k5 := keep3 b5 (keep3 (below1 w4.drew _) ⟨p0, p1, z1⟩); have ZY : Bv w5 w4.heap.size none 0 0 none 0 0 := (Bv.new w4.drew none 0 0 none 0 0).below b5; obtain ⟨g0, g1, g2, g3⟩ := ZY)))
        all_goals
          first
            | (have NX := Yx.behind (w4 := w4) (P := P) b5 l5 q5; generalize w5.alloc (.cells #[.slice oa' K oc', .slice fa' n' fc'] 27) = w6 at NX ⊢; generalize w5.heap.size = Y at NX ⊢)
            | (have NX := Yx.ahead (w4 := w4) (P := P) L4.out.lt b5 l5 q5; generalize (w5.setCell ⟨w4.heap.size, 0, none⟩ (.slice oa' K oc')).setCell ⟨w4.heap.size, 1, none⟩ (.slice fa' n' fc') = w6 at NX ⊢; generalize w4.heap.size = Y at NX ⊢)
          obtain ⟨m0, m1, m2, m3⟩ := NX.lv
          obtain ⟨x0, x1, x2, x3⟩ := V4.out.below NX.below
          have SN := Lib.hid (HS.out.next LY.out B4.out R4.out NX)
          have hEr : (r.2.2.1 != r.2.2.1) = false := by simp
          have hEs : (r.2.2.2 != r.2.2.2) = false := by simp
          clear NX b5 l5 q5 k5
          try clear g0 g1 g2 g3
          clear p0 p1 p2 p3 z1
          go_wp2
          go_roundw
          case rel => exact ⟨k + 1, _, _, _, _, _, _, _, _, by omega, by go_num, SN.out⟩
          case measure => simp [intOf]; omega
    · have dk : decide ((k : Int) < (ll : Int)) = false := by simp; omega
      obtain ⟨p0, p1, p2, p3⟩ := HS.out.lv
      obtain ⟨q0, q1, q2, q3⟩ := HS.out.rv
      have hxr : ¬ X = R := LY.out.xr
      have hrx : ¬ R = X := fun e => hxr e.symm
      have END : Hid (RunEnds K w (.returned (.tuple #[.pointer (some ⟨p, 0, none⟩), .agg #[.slice oa K oc, .slice fa n fc], .bool true])) (((wr.setCell ⟨R, 0, none⟩ (.slice oa K oc)).setCell ⟨R, 1, none⟩ (.slice fa n fc)).drew)) := Lib.hid (by
        have hb := (but_two wr R (.slice oa K oc) (.slice fa n fc)).drew
        exact ⟨p, a, O, fl, oa, oc, fa, fc, n, P, rfl, HS.out.pm.var HS.out.rv LY.out.rp LY.out.ra hb, HS.out.rp.but hb (fun i hi => (HS.out.far i hi).2.2.2), HS.out.below.trans (hb.one HS.out.below.size LY.out.r0), ⟨LY.out.p0, LY.out.a0⟩, fun i hi => ⟨(HS.out.far i hi).2.1, (HS.out.far i hi).2.2.1⟩⟩)
      have Z1 := (HS.out.rv.set oa K oc fa n fc).below (belowD (Below.refl _ _))
      have HZ := Lib.hid Z1
      clear Z1
      go_wp2
      go_region
      obtain ⟨t0, t1, _, _⟩ := HZ.out
      go_wp2
      refine bodyPost_ret (v := .tuple #[.pointer (some ⟨p, 0, none⟩), .agg #[.slice oa K oc, .slice fa n fc], .bool true]) (by simp [results, Try.results9, go_sem, t0, t1]) rfl ?_
      exact END.out
end Go.Proofs.Ytmcdobkoedccgaa
