/-
  The law's own 'run' of package proxy: whatever acts come in, both tables tell the same, and hold the same at the end.
-/
import Derived.Test.YtelhhhmmkdbagaaDoorProxyRun
namespace Go.Proofs.YtelhhhmmkdbagaaDoor
open Go.ChangeShapes Go.WideShapes Go.ChangeAt Go.RowKit Go.Deep

/-- How 'run' ends. -/
def RunEnds (K : Nat) (M : Int) (w : World) (e : Ending) (w' : World) : Prop :=
  ∃ p a T ga gc la lc fa fc n P, e = .returned (.tuple #[.pointer (some ⟨p, 0, none⟩), .agg #[.slice ga K gc, .slice la K lc, .slice fa n fc, .int .i64 M], .bool true]) ∧ Tm w' p a K M T ∧ Rp w' P ga gc la lc fa fc n K T ∧ Below w.heap.size w w' ∧ (w.heap.size ≤ p ∧ w.heap.size ≤ a) ∧ ∀ i, P i → i ≠ p ∧ i ≠ a

set_option maxRecDepth 20000 in
set_option maxHeartbeats 4000000 in
theorem run10_any (n0 n1 : Int) (h0 : 0 ≤ n0 ∧ n0 ≤ 255) (h1 : 0 ≤ n1 ∧ n1 ≤ 255) (K : Nat) (M : Int) (eK : 1 + n0 % 8 = (K : Int)) (eM : 1 + n1 % 4 = M) (al : Option Addr) (ll cl : Nat) (l : List Ac) (B : Nat) (w : World) (hB : B ≤ w.heap.size) (hl : Acts w B al ll l) (hbd : Bd w) :
    Calls Tryd.prog 9 #[.agg #[.int .u8 n0, .int .u8 n1], .slice al ll cl] w (RunEnds K M w) := by
  have hmax := hl.max
  obtain ⟨r0, hr0⟩ : ∃ r0, n0 % 8 = r0 := ⟨_, rfl⟩
  obtain ⟨r1, hr1⟩ : ∃ r1, n1 % 4 = r1 := ⟨_, rfl⟩
  have hs0 : n0.tmod 8 = r0 := by rw [Int.tmod_eq_emod_of_nonneg (by omega), hr0]
  have hs1 : n1.tmod 4 = r1 := by rw [Int.tmod_eq_emod_of_nonneg (by omega), hr1]
  have wK : IntKind.i64.wrap (1 + r0) = (K : Int) := by rw [IntWalk.i64_in _ (by omega)]; omega
  have wM : IntKind.i64.wrap (1 + r1) = M := by rw [IntWalk.i64_in _ (by omega)]; omega
  have hK1 : 1 ≤ K := by omega
  have hK2 : K ≤ 8 := by omega
  have hM1 : 1 ≤ M := by omega
  have hM2 : M ≤ 4 := by omega
  clear eK eM
  have hpos := hbd.pos
  obtain ⟨w1, hw1⟩ : ∃ w1, w1 = (w.alloc (.cells #[.int .u8 n0, .int .u8 n1] 22)).alloc (.cells #[.slice none 0 0, .slice none 0 0, .slice none 0 0, .int .i64 0] 29) := ⟨_, rfl⟩
  have b1 : Below w.heap.size w w1 := by rw [hw1]; exact below2 _ _ _
  have s1 : w1.heap.size = w.heap.size + 2 := by rw [hw1]; simp
  have HB0 : Hid (w1.cell? ⟨w.heap.size, 0, none⟩ = some (.int .u8 n0) ∧ w1.cell? ⟨w.heap.size, 1, none⟩ = some (.int .u8 n1)) := Lib.hid (by rw [hw1]; exact ⟨by go_simp, by go_simp⟩)
  have HW1 := Lib.hid hw1
  have HS1 := Lib.hid s1
  have HN1 := Lib.hid (new_ok K M w1 hK1 (by omega) hM1 (by omega) (hbd.below hpos b1))
  have HPOS := Lib.hid hpos
  rw [hw1] at HN1
  clear hw1 b1 s1 hbd hpos
  go_enter Tryd.func9, Tryd.ntmps9
  go_wp2_with fail
  refine HN1.out.mono ?_
  rw [← HW1.out]
  rintro e w2 ⟨p, a, rfl, m2, b2, hp, ha⟩
  have M2 := Lib.hid m2
  have B2 := Lib.hid b2
  have HPA := Lib.hid (show _ ∧ _ from ⟨hp, ha⟩)
  have cb0 := (b2.cell (p := ⟨w.heap.size, 0, none⟩) (lt_of_cell (p := ⟨w.heap.size, 0, none⟩) HB0.out.1)).trans HB0.out.1
  have cb1 := (b2.cell (p := ⟨w.heap.size, 1, none⟩) (lt_of_cell (p := ⟨w.heap.size, 1, none⟩) HB0.out.2)).trans HB0.out.2
  clear m2 b2 hp ha HN1
  have HN2 := Lib.hid (refNew_ok K M w2 hK1 (by omega) hM1 (by omega))
  go_wp2_with fail
  refine HN2.out.mono ?_
  rintro e w3 ⟨ga, gc, la, lc, fa, fc, Q, rfl, r3, b3, hQ⟩
  obtain ⟨st, ly⟩ := Ps.start HW1.out HPOS.out M2.out B2.out HPA.out.1 HPA.out.2 b3 r3 hQ
  have S0 := Lib.hid st
  have LY := Lib.hid ly
  clear st ly r3 b3 hQ HN2 M2 B2 HPA HW1 HB0 cb0 cb1 HS1
  go_wp2
  generalize w3.alloc (.cells #[.slice ga K gc, .slice la K lc, .slice fa K fc, .int .i64 M] 29) = w30 at S0 ⊢
  generalize w3.heap.size = X at S0 LY ⊢
  obtain ⟨R, hR⟩ : ∃ R, R = w.heap.size + 1 := ⟨_, rfl⟩
  have HR := Lib.hid hR
  rw [← hR] at S0 LY ⊢
  clear hR hs0 hs1 wK wM hr0 hr1
  go_loopw [11] (fun i wr => ∃ (k : Nat) (T : Tb) (ga : Option Addr) (gc : Nat) (la : Option Addr) (lc : Nat) (fa : Option Addr) (fc n : Nat) (P : Nat → Prop), k ≤ ll ∧ i = .int .i64 k ∧ Ps w p a X R K M T ga gc la lc fa fc n P wr) (fun i _ => ll - (intOf i).toNat)
  case atStart => exact ⟨0, _, _, _, _, _, _, _, _, _, by omega, rfl, S0.out⟩
  case round =>
    obtain ⟨k, T, ga, gc, la, lc, fa, fc, n, P, hk, rfl, hs⟩ := hrel
    have HS := Lib.hid hs
    clear hs S0
    by_cases hlt : k < ll
    · have dk : decide ((k : Int) < (ll : Int)) = true := by simp; omega
      have U1 := Lib.hid (hl.below (HS.out.below.mono hB))
      obtain ⟨b0, o0, rfl, hb0, hc0⟩ := U1.out.head (by omega)
      obtain ⟨u, hu, hfit⟩ := U1.out.at_ hlt
      have y0 : wr.cell? ⟨b0, o0 + k * 3, none⟩ = some (.bool u.give) := hc0 k u hu 0 _ rfl
      have y1 : wr.cell? ⟨b0, o0 + k * 3 + 1, none⟩ = some (.int .u8 u.n) := hc0 k u hu 1 _ rfl
      have y2 : wr.cell? ⟨b0, o0 + k * 3 + 2, none⟩ = some (.int .u8 u.gen) := hc0 k u hu 2 _ rfl
      have HF : Hid ((0 ≤ u.n ∧ u.n ≤ 255) ∧ 0 ≤ u.gen ∧ u.gen ≤ 255) := Lib.hid hfit
      have hpn : ¬ b0 = p := by have := LY.out.p0; omega
      have han : ¬ b0 = a := by have := LY.out.a0; omega
      clear hc0 hu hfit
      cases hg : u.give with
      | true =>
        rw [hg] at y0
        have HHn := Lib.hid (fun v => handle_any u true HF.out.1 HF.out.2 v)
        obtain ⟨q1, q2⟩ := hnd_in u
        generalize hnd u = h at HHn q1 q2
        go_wp2_with fail
        refine (HHn.out _).mono ?_
        rintro e wh ⟨rfl, bh⟩
        have HD := Lib.hid (give_any (HS.out.tm.below bh) (n := h) (by omega) (by omega))
        have BH0 := Lib.hid bh
        clear bh
        go_wp2_with fail
        refine HD.out.mono ?_
        rintro e w4 ⟨rfl, r4, b4'⟩
        have b4 : But (Own p a) wr w4 := (Below.but BH0.out (Own p a)).trans b4'
        have z0 := (b4.cell (p := ⟨b0, o0 + k * 3, none⟩) (lt_of_cell (p := ⟨b0, o0 + k * 3, none⟩) y0) (fun e => by rcases e with e | e; exact hpn e; exact han e)).trans y0
        have z1 := (b4.cell (p := ⟨b0, o0 + k * 3 + 1, none⟩) (lt_of_cell (p := ⟨b0, o0 + k * 3 + 1, none⟩) y1) (fun e => by rcases e with e | e; exact hpn e; exact han e)).trans y1
        have z2 := (b4.cell (p := ⟨b0, o0 + k * 3 + 2, none⟩) (lt_of_cell (p := ⟨b0, o0 + k * 3 + 2, none⟩) y2) (fun e => by rcases e with e | e; exact hpn e; exact han e)).trans y2
        have L4 := Lib.hid (HS.out.rp.but b4 (fun i hi e => by have := HS.out.far i hi; rcases e with e | e; exact this.2.1 e; exact this.2.2.1 e))
        have V4 := Lib.hid (HS.out.lv.but b4 (fun e => by rcases e with e | e; exact LY.out.xp e; exact LY.out.xa e))
        have HC : Hid (∀ v, Below w4.heap.size w4 v → Calls Tryd.prog 20 #[.agg #[.slice ga K gc, .slice la K lc, .slice fa n fc, .int .i64 M], .int .i64 h] v (RefGive P K M (giveOut M T h) v)) :=
          Lib.hid (fun v hv => refGive_any (L4.out.on hv) HS.out.tm.wf (by omega) (by omega) h (by omega) (by omega))
        generalize giveOut M T h = r at HC r4 ⊢
        have R4 := Lib.hid r4
        have B4 := Lib.hid b4
        obtain ⟨p0, p1, p2, p3, pf0, pf1, pf2, pf3⟩ := V4.out
        have kW := (show w4.cell? ⟨X, 0, none⟩ = some (.slice ga K gc) ∧ w4.cell? ⟨X, 1, none⟩ = some (.slice la K lc) ∧ w4.cell? ⟨X, 2, none⟩ = some (.slice fa n fc) ∧ w4.cell? ⟨X, 3, none⟩ = some (.int .i64 M) ∧ w4.cell? ⟨b0, o0 + k * 3, none⟩ = some (.bool true) ∧ w4.cell? ⟨b0, o0 + k * 3 + 1, none⟩ = some (.int .u8 u.n) ∧ w4.cell? ⟨b0, o0 + k * 3 + 2, none⟩ = some (.int .u8 u.gen) from ⟨p0, p1, p2, p3, z0, z1, z2⟩)
        have kD := keep7 (belowD (Below.refl w4.heap.size w4)) kW
        have kA := keep7 (below1 w4.drew (.cells #[.slice none 0 0, .slice none 0 0, .slice none 0 0, .int .i64 0] 29)) kD
        have BD := (belowD (Below.refl w4.heap.size w4))
        clear r4 b4 b4' y0 y1 y2 HD BH0
        go_wp2_with fail
        go_region_held3 (fun w' => w'.cell? ⟨X, 0, none⟩ = some (.slice ga K gc) ∧ w'.cell? ⟨X, 1, none⟩ = some (.slice la K lc) ∧ w'.cell? ⟨X, 2, none⟩ = some (.slice fa n fc) ∧ w'.cell? ⟨X, 3, none⟩ = some (.int .i64 M) ∧ w'.cell? ⟨b0, o0 + k * 3, none⟩ = some (.bool true) ∧ w'.cell? ⟨b0, o0 + k * 3 + 1, none⟩ = some (.int .u8 u.n) ∧ w'.cell? ⟨b0, o0 + k * 3 + 2, none⟩ = some (.int .u8 u.gen))
          (first | with_reducible exact kD | with_reducible exact kA | with_reducible exact k5 | with_reducible exact kH | with_reducible exact keep7 (below1 _ _) k5 | with_reducible exact keep7 (below1 _ _) kH | with_reducible exact keep7y (w := w4) (but_four _ _ _ _ _ _) hY kW k5 | with_reducible exact kW | go_keep)
          (first
            | (go_at_call 19; refine (HHn.out _).mono ?_; rintro e wH ⟨rfl, bH⟩; (first | (have kH := keep7 bH kD; have BH : Below w4.heap.size w4 wH := belowT BD bH) | (have kH := keep7 bH kA; have BH : Below w4.heap.size w4 wH := belowT (belowT BD (below1 w4.drew (.cells #[.slice none 0 0, .slice none 0 0, .slice none 0 0, .int .i64 0] 29))) bH; have bA := bH; have ZH : Bv wH w4.heap.size (.slice none 0 0) (.slice none 0 0) (.slice none 0 0) (.int .i64 0) := (Bv.new w4.drew (.slice none 0 0) (.slice none 0 0) (.slice none 0 0) (.int .i64 0)).below bH)))
            | (go_at_call 20; refine (HC.out _ ?_).mono ?_; (first | exact BH | exact BH.alloc BH.size _); rintro e w5 ⟨ga', gc', la', lc', fa', fc', n', Q', rfl, l5, b5, q5⟩; (first | (have k5 := keep7 b5 kH) | (have k5 := keep7 b5 (keep7 (below1 wH (.cells #[.slice none 0 0, .slice none 0 0, .slice none 0 0, .int .i64 0] 29)) kH))); (first | (have hY : w4.heap.size ≤ w4.heap.size := Nat.le_refl _; have ZY := ZH.below b5; obtain ⟨g0, g1, g2, g3, gf0, gf1, gf2, gf3⟩ := ZY) | (have hY : w4.heap.size ≤ wH.heap.size := BH.size; have ZY := (Bv.new wH (.slice none 0 0) (.slice none 0 0) (.slice none 0 0) (.int .i64 0)).below b5; obtain ⟨g0, g1, g2, g3, gf0, gf1, gf2, gf3⟩ := ZY) | skip)))
        all_goals
          first
            | (have NX : Yx w4 P K M r.1 ga' gc' la' lc' fa' fc' n' Q' w4.heap.size ((((w5.setCell ⟨w4.heap.size, 0, none⟩ (.slice ga' K gc')).setCell ⟨w4.heap.size, 1, none⟩ (.slice la' K lc')).setCell ⟨w4.heap.size, 2, none⟩ (.slice fa' n' fc')).setCell ⟨w4.heap.size, 3, none⟩ (.int .i64 M)) := Yx.ahead (v0 := w4.drew) L4.out.lt BD bA b5 l5 q5; generalize (((w5.setCell ⟨w4.heap.size, 0, none⟩ (.slice ga' K gc')).setCell ⟨w4.heap.size, 1, none⟩ (.slice la' K lc')).setCell ⟨w4.heap.size, 2, none⟩ (.slice fa' n' fc')).setCell ⟨w4.heap.size, 3, none⟩ (.int .i64 M) = w6 at NX ⊢; generalize w4.heap.size = Y at NX ⊢; clear bA ZH hY g0 g1 g2 g3 gf0 gf1 gf2 gf3)
            | (have NX : Yx w4 P K M r.1 ga' gc' la' lc' fa' fc' n' Q' wH.heap.size ((((w5.setCell ⟨wH.heap.size, 0, none⟩ (.slice ga' K gc')).setCell ⟨wH.heap.size, 1, none⟩ (.slice la' K lc')).setCell ⟨wH.heap.size, 2, none⟩ (.slice fa' n' fc')).setCell ⟨wH.heap.size, 3, none⟩ (.int .i64 M)) := Yx.ahead (v0 := wH) L4.out.lt BH (Below.refl _ _) b5 l5 q5; generalize (((w5.setCell ⟨wH.heap.size, 0, none⟩ (.slice ga' K gc')).setCell ⟨wH.heap.size, 1, none⟩ (.slice la' K lc')).setCell ⟨wH.heap.size, 2, none⟩ (.slice fa' n' fc')).setCell ⟨wH.heap.size, 3, none⟩ (.int .i64 M) = w6 at NX ⊢; generalize wH.heap.size = Y at NX ⊢; clear hY g0 g1 g2 g3 gf0 gf1 gf2 gf3)
            | (have NX : Yx w4 P K M r.1 ga' gc' la' lc' fa' fc' n' Q' w5.heap.size (w5.alloc (.cells #[.slice ga' K gc', .slice la' K lc', .slice fa' n' fc', .int .i64 M] 29)) := Yx.behind BH b5 l5 q5; generalize w5.alloc (.cells #[.slice ga' K gc', .slice la' K lc', .slice fa' n' fc', .int .i64 M] 29) = w6 at NX ⊢; generalize w5.heap.size = Y at NX ⊢)
          obtain ⟨m0, m1, m2, m3, mf0, mf1, mf2, mf3⟩ := NX.lv
          obtain ⟨x0, x1, x2, x3, xf0, xf1, xf2, xf3⟩ := V4.out.below NX.below
          have SN := Lib.hid (HS.out.next LY.out B4.out R4.out NX)
          have hEr : (r.2 != r.2) = false := by simp
          clear NX b5 l5 q5 k5 kH bH BH kW kD kA BD
          clear p0 p1 p2 p3 pf0 pf1 pf2 pf3 z0 z1 z2
          go_wp2
          go_roundw
          case rel => exact ⟨k + 1, _, _, _, _, _, _, _, _, _, by omega, by go_num, SN.out⟩
          case measure => simp [intOf]; omega
      | false =>
        rw [hg] at y0
        have HD := Lib.hid (take_any HS.out.tm)
        go_wp2_with fail
        refine HD.out.mono ?_
        rintro e w4 ⟨rfl, r4, b4⟩
        have L4 := Lib.hid (HS.out.rp.but b4 (fun i hi e => by have := HS.out.far i hi; rcases e with e | e; exact this.2.1 e; exact this.2.2.1 e))
        have V4 := Lib.hid (HS.out.lv.but b4 (fun e => by rcases e with e | e; exact LY.out.xp e; exact LY.out.xa e))
        have HC : Hid (Calls Tryd.prog 21 #[.agg #[.slice ga K gc, .slice la K lc, .slice fa n fc, .int .i64 M]] w4 (RefTake P K M (takeOut T) w4)) :=
          Lib.hid (refTake_any L4.out HS.out.tm.wf (by omega) (by omega))
        generalize takeOut T = r at HC r4 ⊢
        have R4 := Lib.hid r4
        have B4 := Lib.hid b4
        obtain ⟨p0, p1, p2, p3, pf0, pf1, pf2, pf3⟩ := V4.out
        clear r4 b4 y0 y1 y2 HD
        go_wp2_with fail
        refine HC.out.mono ?_
        rintro e w5 ⟨ga', gc', la', lc', fa', fc', n', Q', rfl, l5, b5, q5⟩
        have NX : Yx w4 P K M r.1 ga' gc' la' lc' fa' fc' n' Q' w5.heap.size (w5.alloc (.cells #[.slice ga' K gc', .slice la' K lc', .slice fa' n' fc', .int .i64 M] 29)) := Yx.behind (Below.refl _ _) b5 l5 q5
        have HN := Lib.hid NX
        obtain ⟨x0, x1, x2, x3, xf0, xf1, xf2, xf3⟩ := V4.out.below NX.below
        obtain ⟨m0, m1, m2, m3, mf0, mf1, mf2, mf3⟩ := NX.lv
        have SN := Lib.hid (HS.out.next LY.out B4.out R4.out NX)
        have hEr : (r.2.1 != r.2.1) = false := by simp
        have hEs : (r.2.2.1 != r.2.2.1) = false := by simp
        have hEt : (r.2.2.2 != r.2.2.2) = false := by simp
        clear NX b5 l5 q5 p0 p1 p2 p3 pf0 pf1 pf2 pf3 HC
        go_wp2
        go_roundw
        case rel => exact ⟨k + 1, _, _, _, _, _, _, _, _, _, by omega, by go_num, SN.out⟩
        case measure => simp [intOf]; omega
    · have dk : decide ((k : Int) < (ll : Int)) = false := by simp; omega
      obtain ⟨p0, p1, p2, p3, pf0, pf1, pf2, pf3⟩ := HS.out.lv
      obtain ⟨q0, q1, q2, q3, qf0, qf1, qf2, qf3⟩ := HS.out.rv
      have hxr : ¬ X = R := LY.out.xr
      have hrx : ¬ R = X := fun e => hxr e.symm
      have END : Hid (RunEnds K M w (.returned (.tuple #[.pointer (some ⟨p, 0, none⟩), .agg #[.slice ga K gc, .slice la K lc, .slice fa n fc, .int .i64 M], .bool true])) ((set4 wr R (.slice ga K gc) (.slice la K lc) (.slice fa n fc) (.int .i64 M)).drew)) := Lib.hid (by
        have hb := (but_four wr R (.slice ga K gc) (.slice la K lc) (.slice fa n fc) (.int .i64 M)).drew
        exact ⟨p, a, T, ga, gc, la, lc, fa, fc, n, P, rfl, HS.out.tm.var LY.out.rp LY.out.ra (by have := LY.out.pos; have := LY.out.r0; omega) hb, HS.out.rp.but hb (fun i hi => (HS.out.far i hi).2.2.2), HS.out.below.trans (hb.one HS.out.below.size LY.out.r0), ⟨LY.out.p0, LY.out.a0⟩, fun i hi => ⟨(HS.out.far i hi).2.1, (HS.out.far i hi).2.2.1⟩⟩)
      have Z1 := (HS.out.rv.set (.slice ga K gc) (.slice la K lc) (.slice fa n fc) (.int .i64 M)).below (belowD (Below.refl _ _))
      have HZ := Lib.hid Z1
      clear Z1
      go_wp2
      go_region
      obtain ⟨t0, t1, t2, t3, _, _, _, _⟩ := HZ.out
      unfold set4 at t0 t1 t2 t3
      go_wp2
      refine bodyPost_ret (v := .tuple #[.pointer (some ⟨p, 0, none⟩), .agg #[.slice ga K gc, .slice la K lc, .slice fa n fc, .int .i64 M], .bool true]) (by simp [results, Tryd.results9, go_sem, t0, t1, t2, t3]) rfl ?_
      exact END.out
end Go.Proofs.YtelhhhmmkdbagaaDoor
