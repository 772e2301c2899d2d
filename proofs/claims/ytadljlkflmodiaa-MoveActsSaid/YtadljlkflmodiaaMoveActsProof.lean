/-
  MoveActs: whatever bytes, three numbers and acts come in, the law returns true, and the input reads behind the call as it did.
-/
import Derived.Test.YtadljlkflmodiaaRows
import Derived.WalkKit
import Derived.ProofKit
import Derived.OpenShut
import Derived.Test.YtadljlkflmodiaaMoveAwake
import Derived.Test.YtadljlkflmodiaaMoveSt
import Derived.Test.YtadljlkflmodiaaThree
import Derived.ShutString
import Derived.ChangeOld
import Derived.Below
namespace Go.Proofs.Ytadljlkflmodiaa.moveActs
open Go.ChangeShapes Go.WideShapes Go.ChangeAt Go.RowKit
open Go.ChangeMaps (open_string shut_string)
set_option linter.unusedVariables false

theorem own : ownKnob Try.prog.godebug = none := by kernel_rfl
theorem laidOut : laidOutB Try.prog = true := by kernel_rfl

/-! ### The walk -/
set_option maxRecDepth 20000 in
set_option maxHeartbeats 2000000 in
theorem walk (ab : Option Addr) (lb cb : Nat) (b : List Int) (n0 n1 n2 : Int) (al : Option Addr) (ll cl : Nat) (l : List Ac) (w : World) (hb : Bytes w w.heap.size ab lb b) (hcb : lb ≤ cb) (hn0 : -9223372036854775808 ≤ n0 ∧ n0 ≤ 9223372036854775807) (hn1 : -9223372036854775808 ≤ n1 ∧ n1 ≤ 9223372036854775807) (hn2 : -9223372036854775808 ≤ n2 ∧ n2 ≤ 9223372036854775807) (hl : Acts w w.heap.size al ll l) (hcl : ll ≤ cl) :
    Calls Try.prog 3 #[.slice ab lb cb, .agg #[.int .i64 n0, .int .i64 n1, .int .i64 n2], .slice al ll cl] w fun e w' => e = .returned (.bool true) ∧ Below w.heap.size w w' := by
  have hmax := hl.max
  have hbm := hb.max
  go_enter Try.func3, Try.ntmps3
  go_wp2_with fail
  refine (awake15_any _).mono ?_
  rintro e w0 ⟨rfl, h0⟩
  obtain ⟨V, hV⟩ : ∃ V : World, V = w.alloc (.cells #[.int .i64 n0, .int .i64 n1, .int .i64 n2] 23) := ⟨_, rfl⟩
  have VB : Hid (Below w.heap.size w V) := Lib.hid (by rw [hV]; exact below1 w _)
  have VS : Hid (V.heap.size = w.heap.size + 1) := Lib.hid (by rw [hV]; simp)
  have VN : Hid (Cs V w.heap.size [.int .i64 n0, .int .i64 n1, .int .i64 n2]) := Lib.hid (by rw [hV]; exact Cs.new w _ _ rfl)
  have HD : Hid (∀ w', Below V.heap.size V w' → Below w.heap.size w w') := Lib.hid (fun w' h => belowT VB.out h)
  rw [← hV] at h0
  have H0 := Lib.hid h0
  clear h0 hV
  by_cases h128 : lb = 128
  · subst h128
    go_wp2_with fail
    refine (few_any al ll cl l w.heap.size w0 (hl.below (HD.out _ H0.out)) hcl).mono ?_
    rintro e w00 ⟨ff, rfl, rfl, hf⟩
    cases ff with
    | false =>
      go_wp2
      go_ret
      exact ⟨rfl, HD.out _ H0.out⟩
    | true =>
      have hll : ll ≤ 20 := hf rfl
      clear hf
      go_wp2_with fail
      refine (new_any w0).mono ?_
      rintro e w1 ⟨rfl, m1, b1, s1⟩
      have HG : Hid (V.heap.size ≤ w0.heap.size) := Lib.hid H0.out.size
      have B1 := Lib.hid (belowT H0.out b1)
      generalize hγ : w0.heap.size = γ at m1 s1 HG ⊢
      have HA : Hid (Calls Try.prog 11 #[.int .i64 2, .int .i64 64, .pointer (some ⟨γ, 0, none⟩)] w1 fun e w' => ∃ p b, e = .returned (.tuple #[.pointer (some ⟨p, 0, none⟩), .int .i64 0]) ∧ Ar w' p b (some γ) (List.replicate 128 0) 0 0 ∧ Below w1.heap.size w1 w' ∧ w1.heap.size ≤ p ∧ w1.heap.size ≤ b) :=
        Lib.hid (arenaNew_ok 2 64 (some γ) 0 0 w1 (by decide) (Mo.one m1) (fun q e => by cases e; exact s1))
      clear m1 b1 s1 hγ
      go_wp2_with fail
      refine HA.out.mono ?_
      rintro e w2 ⟨p, q0, rfl, a2, b2, hp, hq0⟩
      have HQ0 := Lib.hid (Nat.le_trans B1.out.size hq0)
      have B2 := Lib.hid (belowT B1.out b2)
      have HW := Lib.hid (write_whole (n := 128) (c := cb) a2 (by simp) (hb.below (HD.out _ B2.out)) (HD.out _ B2.out).size (fun _ e => by cases e; have := HG.out; have := VS.out; omega))
      clear HA a2 b2 hp hq0
      go_wp2_with fail
      refine HW.out.mono ?_
      rintro e w3 ⟨rfl, a3, b3⟩
      have A3 := Lib.hid a3
      have B3 := Lib.hid (B2.out.trans (Ar.mine b3 B2.out.size HQ0.out (fun _ e => by cases e; exact HG.out)))
      clear HW a3 b3
      have HP3 : Hid (p < w3.heap.size ∧ q0 < w3.heap.size ∧ γ < w3.heap.size) := Lib.hid ⟨A3.out.size, A3.out.row.size, (A3.out.mo γ rfl).size⟩
      have HV : Hid (Calls Try.prog 13 #[.int .i64 2, .int .i64 64] w3 fun e w' => ∃ g, e = .returned (.tuple #[.agg #[.slice (some ⟨g, 0, none⟩) 128 128, .int .i64 0], .int .i64 0]) ∧ Row w' g (List.replicate 128 0) ∧ Below w3.heap.size w3 w' ∧ w3.heap.size ≤ g) := Lib.hid (refNew_ok 2 64 w3 (by decide))
      go_wp2_with fail
      refine HV.out.mono ?_
      rintro e w4 ⟨h, rfl, r4, b4, hh⟩
      have bz := below1 w4 (.cells #[.slice (some ⟨h, 0, none⟩) 128 128, .int .i64 0] 35)
      have B4 := Lib.hid (belowT (belowT B3.out b4) bz)
      have HFA : Hid (p < w4.heap.size ∧ q0 < w4.heap.size ∧ γ < w4.heap.size) := Lib.hid (by have := HP3.out; have := b4.size; omega)
      have A4 := Lib.hid ((A3.out.below b4).below bz)
      have HWR := Lib.hid (refWrite_ok (some ⟨h, 0, none⟩) 128 128 0 0 ab 128 cb (List.replicate 128 0) b _ ((r4.below bz).all (by simp)) ((hb.below (HD.out _ B4.out)).more (HD.out _ B4.out).size) (by omega) (by omega) (by omega) (by omega) (by omega))
      rw [splice_whole (by rw [hb.len]; simp)] at HWR
      clear HV r4 b4 hh bz A3
      go_wp2_with fail
      refine HWR.out.mono ?_
      rintro e w5 ⟨b0, c0, rfl, r5, b5, hc0, hb0⟩
      have bz := below1 w5 (.cells #[.slice (some ⟨b0, 0, none⟩) 128 c0, .int .i64 128] 35)
      have B5 := Lib.hid (belowT (belowT B4.out b5) bz)
      have A5 := Lib.hid ((A4.out.below b5).below bz)
      have R5 := Lib.hid (r5.below bz)
      have HC0 := Lib.hid hc0
      have HB0 : Hid (w4.heap.size < b0) := Lib.hid (by simp at hb0; omega)
      have S5 := Lib.hid (show b0 < w5.heap.size from r5.size)
      clear r5 b5 hc0 hb0 bz A4 HWR
      have nz0 := (VN.out.below B5.out).cell 0 _ rfl
      have nz1 := (VN.out.below B5.out).cell 1 _ rfl
      have nz2 := (VN.out.below B5.out).cell 2 _ rfl
      obtain ⟨W5, hW5⟩ : ∃ W5 : World, W5 = w5.alloc (.cells #[.slice (some ⟨b0, 0, none⟩) 128 c0, .int .i64 128] 35) := ⟨_, rfl⟩
      have W0 : Hid (Cs W5 w5.heap.size [.slice (some ⟨b0, 0, none⟩) 128 c0, .int .i64 128]) := Lib.hid (by rw [hW5]; exact Cs.new w5 _ _ rfl)
      have HS5 : Hid (w5.heap.size < W5.heap.size ∧ w4.heap.size < w5.heap.size) := Lib.hid (by rw [hW5]; have := S5.out; have := HB0.out; simp; omega)
      by_cases hmay : mayMove 128 n0 n1 n2
      · obtain ⟨f, rfl⟩ : ∃ n : Nat, n0 = (n : Int) := ⟨n0.toNat, by have := hmay.2.1.1; omega⟩
        obtain ⟨t, rfl⟩ : ∃ n : Nat, n1 = (n : Int) := ⟨n1.toNat, by have := hmay.2.2.1.1; omega⟩
        obtain ⟨s, rfl⟩ : ∃ n : Nat, n2 = (n : Int) := ⟨n2.toNat, by have := hmay.1; omega⟩
        have HM := Lib.hid (moveNew_ok A5.out f t s (by rw [hb.len]; exact hmay))
        have HMY := Lib.hid hmay
        have w00 := W0.out.cell 0 _ rfl
        have w01 := W0.out.cell 1 _ rfl
        clear hmay
        go_wp2_with fail
        rw [← hW5] at nz0 nz1 nz2 B5 HM R5 ⊢
        clear hW5
        refine HM.out.mono ?_
        rintro e w6 ⟨q, rfl, m6, b6, hq⟩
        have M6 := Lib.hid m6
        have B6 := Lib.hid b6
        have HQ := Lib.hid hq
        have W6 := Lib.hid (W0.out.below b6)
        have R6 := Lib.hid (R5.out.below b6)
        clear nz0 nz1 nz2 w00 w01 m6 b6 hq HM
        have nz0 := (VN.out.below (belowT B5.out B6.out)).cell 0 _ rfl
        have nz1 := (VN.out.below (belowT B5.out B6.out)).cell 1 _ rfl
        have nz2 := (VN.out.below (belowT B5.out B6.out)).cell 2 _ rfl
        have w00 := W6.out.cell 0 _ rfl
        have w01 := W6.out.cell 1 _ rfl
        have HR := Lib.hid (refMoveNew_ok (N := 128) (c := c0) (st := 128) (some ⟨b0, 0, none⟩) f t s w6 (by omega) HMY.out)
        go_wp2_with fail
        refine HR.out.mono ?_
        rintro e w7 ⟨rfl, b7⟩
        have bz := below1 w7 (.cells #[.slice (some ⟨b0, 0, none⟩) 128 c0, .int .i64 128, .int .i64 (f : Int), .int .i64 (t : Int), .int .i64 (s : Int), .int .i64 0] 43)
        have F : Hid (Mf V q p q0 γ w7.heap.size) := Lib.hid (by
          have t1 := b7.size
          have t2 := M6.out.ar.size
          have t3 := M6.out.ar.row.size
          have t4 := (M6.out.ar.mo γ rfl).size
          have t5 := M6.out.mv.size
          have t6 := HG.out
          have t7 := HQ.out
          have t8 := B5.out.size
          have t9 := B6.out.size
          have t10 := HQ0.out
          exact ⟨by omega, by omega, by omega, by omega, by omega, by omega, by omega, by omega⟩)
        have B7 := Lib.hid (belowT (belowT (belowT B5.out B6.out) b7) bz)
        have St0 : Hid (Ms V q p q0 γ w7.heap.size f t s 0 b 128 0 b0 0 c0 (w7.alloc (.cells #[.slice (some ⟨b0, 0, none⟩) 128 c0, .int .i64 128, .int .i64 (f : Int), .int .i64 (t : Int), .int .i64 (s : Int), .int .i64 0] 43))) := Lib.hid (by
          have t1 := HFA.out
          have t2 := HB0.out
          have t3 := HQ.out
          have t4 := S5.out
          have t5 := HS5.out
          have t6 := b7.size
          have t7 := B6.out.size
          exact ⟨B7.out, (M6.out.below b7).below bz, Cs.new w7 _ _ rfl, hb.len, HC0.out, ((R6.out.below b7).below bz).all hb.len, by omega, by omega, by omega, by omega, by omega, by omega⟩)
        have HU := Lib.hid hl
        clear b7 bz nz0 nz1 nz2 w00 w01 HR hb hl
        go_wp2
        go_loopw [19] (fun i wr => ∃ (k g b' o c : Nat) (xs : List Int) (st : Int), k ≤ ll ∧ i = .int .i64 k ∧ Ms V q p q0 γ w7.heap.size f t s k xs st g b' o c wr) (fun i _ => ll - (intOf i).toNat)
        case atStart => exact ⟨0, _, _, _, _, _, _, by omega, rfl, St0.out⟩
        case round =>
          obtain ⟨k, g, b', o, c, xs, st, hk, rfl, hs⟩ := hrel
          have HS := Lib.hid hs
          clear hs St0
          generalize w7.heap.size = X at *
          by_cases hlt : k < ll
          · have dk : decide ((k : Int) < (ll : Int)) = true := by simp; omega
            have U1 := Lib.hid (HU.out.below (HD.out _ HS.out.below))
            obtain ⟨bb, oo, rfl, hbb, hcc⟩ := U1.out.head (by omega)
            obtain ⟨u, hu, huk⟩ := U1.out.at_ hlt
            have UK := Lib.hid huk
            have y0 : wr.cell? ⟨bb, oo + k * 4, none⟩ = some (.bool u.step) := hcc k u hu 0 _ rfl
            have y1 : wr.cell? ⟨bb, oo + k * 4 + 1, none⟩ = some (.int .i64 u.at_) := hcc k u hu 1 _ rfl
            have y2 : wr.cell? ⟨bb, oo + k * 4 + 2, none⟩ = some (.int .i64 u.n) := hcc k u hu 2 _ rfl
            have y3 : wr.cell? ⟨bb, oo + k * 4 + 3, none⟩ = some (.slice u.ba u.bn u.bc) := hcc k u hu 3 _ rfl
            have nz0 := (VN.out.below HS.out.below).cell 0 _ rfl
            have nz2 := (VN.out.below HS.out.below).cell 2 _ rfl
            have HO := Lib.hid (actOut_fit (u := u) huk.2.2.len HS.out.mw.fs HS.out.mw.ts HS.out.mw.mv.gs)
            have HDO := Lib.hid (do_any (w := wr.drew) (HS.out.drewN 1).mw u w.heap.size ⟨huk.1, huk.2.1, huk.2.2.drew⟩ (HD.out _ HS.out.below).size (fun _ e => by cases e; have := F.out.g_; have := VS.out; omega))
            have BDR := Lib.hid (show But (Ours q q0 (some γ)) wr wr.drew from (But.refl _ _).drew)
            clear hcc hu huk
            go_upto_region 16 with fail
            go_still_tail 10, (by kernel_rfl)
            change wpList _ _ _ _ _ wr.drew
            generalize wr.drew = wd at *
            go_wp2_with fail
            refine HDO.out.mono ?_
            rintro e w4 ⟨rfl, m4, b4⟩
            have M4 := Lib.hid m4
            have B4 := Lib.hid (BDR.out.trans b4)
            have C4 := Lib.hid (Mw.mine B4.out HS.out.below.size F.out.q_ F.out.q0_ (fun _ e => by cases e; exact F.out.g_))
            have C4w := Lib.hid ((HD.out _ HS.out.below).trans (C4.out.mono VB.out.size))
            clear m4 b4 HDO BDR nz0 nz2
            have hq4 : ∀ i, i < V.heap.size → ¬ Ours q q0 (some γ) i := fun i hi e => by have := F.out; rcases e with e | e | e; have := this.q_; omega; have := this.q0_; omega; injection e with e; have := this.g_; omega
            have z0 := (B4.out.cell (p := ⟨bb, oo + k * 4, none⟩) (lt_of_cell y0) (hq4 bb (by have := VS.out; omega))).trans y0
            have z1 := (B4.out.cell (p := ⟨bb, oo + k * 4 + 1, none⟩) (lt_of_cell y1) (hq4 bb (by have := VS.out; omega))).trans y1
            have z2 := (B4.out.cell (p := ⟨bb, oo + k * 4 + 2, none⟩) (lt_of_cell y2) (hq4 bb (by have := VS.out; omega))).trans y2
            have z3 := (B4.out.cell (p := ⟨bb, oo + k * 4 + 3, none⟩) (lt_of_cell y3) (hq4 bb (by have := VS.out; omega))).trans y3
            have XS := Lib.hid (HS.out.cs.but B4.out (fun e => by rcases e with e | e | e; exact F.out.xq e; exact F.out.xq0 e; injection e with e; exact F.out.xg e.symm))
            have Y4 := Lib.hid ((HS.out.bytes.butAt B4.out (Nat.le_refl _) (fun e => by rcases e with e | e | e; exact HS.out.bq e; exact HS.out.bq0 e; injection e with e; exact HS.out.bg e.symm)).more B4.out.size)
            have HC : Hid (∀ v, Below w4.heap.size w4 v → Calls Try.prog 18 #[.agg #[.slice (some ⟨b', o, none⟩) 128 c, .int .i64 st, .int .i64 (f : Int), .int .i64 (t : Int), .int .i64 (s : Int), .int .i64 (g : Int)], .agg #[.bool u.step, .int .i64 u.at_, .int .i64 u.n, .slice u.ba u.bn u.bc]] v (RefEnds b' 128 st f t s (actOut xs f t s g u) v)) :=
              Lib.hid (fun v hv => refDo_any u ⟨UK.out.1, UK.out.2.1, (UK.out.2.2.below ((C4.out.mono VB.out.size).trans (hv.mono (Nat.le_trans (HD.out _ HS.out.below).size C4.out.size)))).more (Nat.le_trans (Nat.le_trans (HD.out _ HS.out.below).size C4.out.size) hv.size)⟩ (Y4.out.on hv) HS.out.cap (by omega) HS.out.s0 (by have := HS.out.s1; omega) (by have := HS.out.mw.fs; have := HS.out.len; omega) (by have := HS.out.mw.ts; have := HS.out.len; omega) HS.out.mw.mv.gs (by have := HMY.out.1; omega))
            have HBL := Lib.hid (Y4.out.block_lt (by omega))
            have HLN := Lib.hid (HO.out.1.trans HS.out.len)
            have HSS := Lib.hid (show s ≤ 128 by have := HS.out.mw.fs; have := HS.out.len; omega)
            generalize actOut xs f t s g u = out at HC HO HLN M4 ⊢
            have KD := Lib.hid (show ∀ u', Below w4.heap.size w4 u' → u'.cell? ⟨X, 0, none⟩ = some (.slice (some ⟨b', o, none⟩) 128 c) ∧ u'.cell? ⟨X, 1, none⟩ = some (.int .i64 st) ∧ u'.cell? ⟨X, 2, none⟩ = some (.int .i64 (f : Int)) ∧ u'.cell? ⟨X, 3, none⟩ = some (.int .i64 (t : Int)) ∧ u'.cell? ⟨X, 4, none⟩ = some (.int .i64 (s : Int)) ∧ u'.cell? ⟨X, 5, none⟩ = some (.int .i64 (g : Int)) ∧ u'.cell? ⟨bb, oo + k * 4, none⟩ = some (.bool u.step) ∧ u'.cell? ⟨bb, oo + k * 4 + 1, none⟩ = some (.int .i64 u.at_) ∧ u'.cell? ⟨bb, oo + k * 4 + 2, none⟩ = some (.int .i64 u.n) ∧ u'.cell? ⟨bb, oo + k * 4 + 3, none⟩ = some (.slice u.ba u.bn u.bc) from fun u' hu => ⟨(XS.out.below hu).cell 0 _ rfl, (XS.out.below hu).cell 1 _ rfl, (XS.out.below hu).cell 2 _ rfl, (XS.out.below hu).cell 3 _ rfl, (XS.out.below hu).cell 4 _ rfl, (XS.out.below hu).cell 5 _ rfl, (hu.cell (lt_of_cell z0)).trans z0, (hu.cell (lt_of_cell z1)).trans z1, (hu.cell (lt_of_cell z2)).trans z2, (hu.cell (lt_of_cell z3)).trans z3⟩)
            have bD : Below w4.heap.size w4 w4.drew := belowD (Below.refl _ _)
            have bZ : Below w4.heap.size w4 (w4.alloc (.cells #[.slice none 0 0, .int .i64 0, .int .i64 0, .int .i64 0, .int .i64 0, .int .i64 0] 43)).drew := belowD (below1 w4 _)
            have ZK : Hid (∀ u', Below (w4.alloc (.cells #[.slice none 0 0, .int .i64 0, .int .i64 0, .int .i64 0, .int .i64 0, .int .i64 0] 43)).drew.heap.size (w4.alloc (.cells #[.slice none 0 0, .int .i64 0, .int .i64 0, .int .i64 0, .int .i64 0, .int .i64 0] 43)).drew u' → Cs u' w4.heap.size [.slice none 0 0, .int .i64 0, .int .i64 0, .int .i64 0, .int .i64 0, .int .i64 0]) := Lib.hid (fun u' hu => ((Cs.new w4 _ _ rfl).below (belowD (Below.refl _ _))).below hu)
            have HSZ : Hid ((w4.alloc (.cells #[.slice none 0 0, .int .i64 0, .int .i64 0, .int .i64 0, .int .i64 0, .int .i64 0] 43)).drew.heap.size = w4.heap.size + 1) := Lib.hid (by show (w4.alloc _).heap.size = _; simp)
            have kW := KD.out _ (Below.refl _ _)
            have kD := KD.out _ bD
            have kZ := KD.out _ bZ
            have kA := KD.out _ (below1 w4 (.cells #[.slice none 0 0, .int .i64 0, .int .i64 0, .int .i64 0, .int .i64 0, .int .i64 0] 43))
            clear y0 y1 y2 y3 hq4 z0 z1 z2 z3
            go_wp2_with fail
            go_region_held3 (fun w' => w'.cell? ⟨X, 0, none⟩ = some (.slice (some ⟨b', o, none⟩) 128 c) ∧ w'.cell? ⟨X, 1, none⟩ = some (.int .i64 st) ∧ w'.cell? ⟨X, 2, none⟩ = some (.int .i64 (f : Int)) ∧ w'.cell? ⟨X, 3, none⟩ = some (.int .i64 (t : Int)) ∧ w'.cell? ⟨X, 4, none⟩ = some (.int .i64 (s : Int)) ∧ w'.cell? ⟨X, 5, none⟩ = some (.int .i64 (g : Int)) ∧ w'.cell? ⟨bb, oo + k * 4, none⟩ = some (.bool u.step) ∧ w'.cell? ⟨bb, oo + k * 4 + 1, none⟩ = some (.int .i64 u.at_) ∧ w'.cell? ⟨bb, oo + k * 4 + 2, none⟩ = some (.int .i64 u.n) ∧ w'.cell? ⟨bb, oo + k * 4 + 3, none⟩ = some (.slice u.ba u.bn u.bc))
              (first | with_reducible exact kD | with_reducible exact k5 | with_reducible exact kZ | with_reducible exact kW | with_reducible exact kA | with_reducible exact kL _ | with_reducible exact kS _ _ _ _ _ _)
              ((go_at_call 18; refine Calls.mono (HC.out _ (by first | with_reducible exact bD | with_reducible exact bZ)) ?_; rintro e w5 ⟨b'', o', c', rfl, f5⟩; have q5 : Below w4.heap.size w4 w5 := (by first | with_reducible exact belowT bD f5.below | with_reducible exact belowT bZ f5.below); have F5 : MF w4 w5 b' 128 b'' o' c' out.xs := (by first | with_reducible exact MF.ahead f5 bD | with_reducible exact MF.ahead f5 bZ); have k5 := KD.out _ q5; have kL := fun (z : Obj) => KD.out _ (belowT q5 (below1 w5 z)); have kS := fun (t0 t1 t2 t3 t4 t5 : Value) => KD.out _ (six_below q5 (Nat.le_refl _) t0 t1 t2 t3 t4 t5); (try (with_reducible have zk := ZK.out w5 f5.below; have hz := f5.from_; have d0 := zk.cell 0 _ rfl; have d1 := zk.cell 1 _ rfl; have d2 := zk.cell 2 _ rfl; have d3 := zk.cell 3 _ rfl; have d4 := zk.cell 4 _ rfl; have d5 := zk.cell 5 _ rfl;  have e0 := zk.free 0 (by simp); have e1 := zk.free 1 (by simp); have e2 := zk.free 2 (by simp); have e3 := zk.free 3 (by simp); have e4 := zk.free 4 (by simp); have e5 := zk.free 5 (by simp);  clear zk))))
            · have NX := Nx.behind (f := f) (t := t) (s := s) (st := st) F5
              generalize w5.alloc (.cells #[.slice (some ⟨b'', o', none⟩) 128 c', .int .i64 (st + ((out.s1 : Int) + (out.s2 : Int))), .int .i64 (f : Int), .int .i64 (t : Int), .int .i64 (s : Int), .int .i64 (out.gone : Int)] 43) = w6 at NX ⊢
              generalize w5.heap.size = Y at NX ⊢
              clear kD kW kZ kA k5 kL kS q5 bD bZ f5 F5 KD ZK HC
              have SN := Lib.hid (HS.out.next F.out B4.out M4.out HLN.out (Nat.le_trans HO.out.2.2.1 HSS.out) (Nat.le_trans HO.out.2.2.2 HSS.out) NX (by omega))
              have XB := Lib.hid (XS.out.below NX.below)
              have YC := Lib.hid NX.cs
              have m0 := YC.out.cell 0 _ rfl
              have m1 := YC.out.cell 1 _ rfl
              have m2 := YC.out.cell 2 _ rfl
              have m3 := YC.out.cell 3 _ rfl
              have m4 := YC.out.cell 4 _ rfl
              have m5 := YC.out.cell 5 _ rfl
              have x0 := XB.out.cell 0 _ rfl
              have x1 := XB.out.cell 1 _ rfl
              have x2 := XB.out.cell 2 _ rfl
              have x3 := XB.out.cell 3 _ rfl
              have x4 := XB.out.cell 4 _ rfl
              have x5 := XB.out.cell 5 _ rfl
              have g0 := XB.out.free 0 (by simp)
              have g1 := XB.out.free 1 (by simp)
              have g2 := XB.out.free 2 (by simp)
              have g3 := XB.out.free 3 (by simp)
              have g4 := XB.out.free 4 (by simp)
              have g5 := XB.out.free 5 (by simp)
              clear NX XB YC
              go_wp2_with fail
              generalize ((((((w6.setCell ⟨X, 0, none⟩ (.slice (some ⟨b'', o', none⟩) 128 c')).setCell ⟨X, 1, none⟩ (.int .i64 (st + ((out.s1 : Int) + (out.s2 : Int))))).setCell ⟨X, 2, none⟩ (.int .i64 (f : Int))).setCell ⟨X, 3, none⟩ (.int .i64 (t : Int))).setCell ⟨X, 4, none⟩ (.int .i64 (s : Int))).setCell ⟨X, 5, none⟩ (.int .i64 (out.gone : Int))) = w8 at SN ⊢
              have xc := SN.out.cs.cell 1 _ rfl
              have xd := SN.out.cs.cell 4 _ rfl
              have xe := SN.out.cs.cell 5 _ rfl
              have hgs := SN.out.mw.mv.gs
              have hsw : IntKind.i64.wrap ((s : Int) - (out.gone : Int)) = (s : Int) - (out.gone : Int) := IntWalk.i64_in _ (by have := HSS.out; omega)
              have q1 : ((out.told : Int) != (out.told : Int)) = false := by simp
              have q2 : ((s : Int) - (out.gone : Int) != (s : Int) - (out.gone : Int)) = false := by simp
              have q3 : ((st + ((out.s1 : Int) + (out.s2 : Int))) != (st + ((out.s1 : Int) + (out.s2 : Int)))) = false := by simp
              have HLf := Lib.hid (fun d => left_any (SN.out.drewN d).mw.mv (Nat.le_trans HSS.out (by omega)))
              have HT := Lib.hid (fun d => total_any γ (st + ((out.s1 : Int) + (out.s2 : Int))) 0 (w8.drewN d) ((SN.out.drewN d).mw.ar.mo γ rfl))
              clear m0 m1 m2 m3 m4 m5 x0 x1 x2 x3 x4 x5 g0 g1 g2 g3 g4 g5 hgs
              go_quiet (first | (go_at_call 20; exact quiet1 (HT.out _)) | (go_at_call 19; exact quietQ (HLf.out _)))
              go_wp2
              go_roundw
              case rel => exact ⟨k + 1, _, _, _, _, _, _, by omega, by go_num, SN.out.drewN _⟩
              case measure => simp [intOf]; omega
            · have NX := Nx.ahead (f := f) (t := t) (s := s) (st := st) F5 (ZK.out w5 f5.below) (by have h1 := HSZ.out; have h2 := HBL.out; rcases f5.from_ with e | e <;> omega)
              generalize ((((((w5.setCell ⟨w4.heap.size, 0, none⟩ (.slice (some ⟨b'', o', none⟩) 128 c')).setCell ⟨w4.heap.size, 1, none⟩ (.int .i64 (st + ((out.s1 : Int) + (out.s2 : Int))))).setCell ⟨w4.heap.size, 2, none⟩ (.int .i64 (f : Int))).setCell ⟨w4.heap.size, 3, none⟩ (.int .i64 (t : Int))).setCell ⟨w4.heap.size, 4, none⟩ (.int .i64 (s : Int))).setCell ⟨w4.heap.size, 5, none⟩ (.int .i64 (out.gone : Int))) = w6 at NX ⊢
              generalize w4.heap.size = Y at NX ⊢
              clear kD kW kZ kA k5 kL kS q5 bD bZ f5 F5 KD ZK HC
              have SN := Lib.hid (HS.out.next F.out B4.out M4.out HLN.out (Nat.le_trans HO.out.2.2.1 HSS.out) (Nat.le_trans HO.out.2.2.2 HSS.out) NX (by omega))
              have XB := Lib.hid (XS.out.below NX.below)
              have YC := Lib.hid NX.cs
              have m0 := YC.out.cell 0 _ rfl
              have m1 := YC.out.cell 1 _ rfl
              have m2 := YC.out.cell 2 _ rfl
              have m3 := YC.out.cell 3 _ rfl
              have m4 := YC.out.cell 4 _ rfl
              have m5 := YC.out.cell 5 _ rfl
              have x0 := XB.out.cell 0 _ rfl
              have x1 := XB.out.cell 1 _ rfl
              have x2 := XB.out.cell 2 _ rfl
              have x3 := XB.out.cell 3 _ rfl
              have x4 := XB.out.cell 4 _ rfl
              have x5 := XB.out.cell 5 _ rfl
              have g0 := XB.out.free 0 (by simp)
              have g1 := XB.out.free 1 (by simp)
              have g2 := XB.out.free 2 (by simp)
              have g3 := XB.out.free 3 (by simp)
              have g4 := XB.out.free 4 (by simp)
              have g5 := XB.out.free 5 (by simp)
              clear NX XB YC
              go_wp2_with fail
              generalize ((((((w6.setCell ⟨X, 0, none⟩ (.slice (some ⟨b'', o', none⟩) 128 c')).setCell ⟨X, 1, none⟩ (.int .i64 (st + ((out.s1 : Int) + (out.s2 : Int))))).setCell ⟨X, 2, none⟩ (.int .i64 (f : Int))).setCell ⟨X, 3, none⟩ (.int .i64 (t : Int))).setCell ⟨X, 4, none⟩ (.int .i64 (s : Int))).setCell ⟨X, 5, none⟩ (.int .i64 (out.gone : Int))) = w8 at SN ⊢
              have xc := SN.out.cs.cell 1 _ rfl
              have xd := SN.out.cs.cell 4 _ rfl
              have xe := SN.out.cs.cell 5 _ rfl
              have hgs := SN.out.mw.mv.gs
              have hsw : IntKind.i64.wrap ((s : Int) - (out.gone : Int)) = (s : Int) - (out.gone : Int) := IntWalk.i64_in _ (by have := HSS.out; omega)
              have q1 : ((out.told : Int) != (out.told : Int)) = false := by simp
              have q2 : ((s : Int) - (out.gone : Int) != (s : Int) - (out.gone : Int)) = false := by simp
              have q3 : ((st + ((out.s1 : Int) + (out.s2 : Int))) != (st + ((out.s1 : Int) + (out.s2 : Int)))) = false := by simp
              have HLf := Lib.hid (fun d => left_any (SN.out.drewN d).mw.mv (Nat.le_trans HSS.out (by omega)))
              have HT := Lib.hid (fun d => total_any γ (st + ((out.s1 : Int) + (out.s2 : Int))) 0 (w8.drewN d) ((SN.out.drewN d).mw.ar.mo γ rfl))
              clear m0 m1 m2 m3 m4 m5 x0 x1 x2 x3 x4 x5 g0 g1 g2 g3 g4 g5 hgs
              go_quiet (first | (go_at_call 20; exact quiet1 (HT.out _)) | (go_at_call 19; exact quietQ (HLf.out _)))
              go_wp2
              go_roundw
              case rel => exact ⟨k + 1, _, _, _, _, _, _, by omega, by go_num, SN.out.drewN _⟩
              case measure => simp [intOf]; omega
          · have dk : decide ((k : Int) < (ll : Int)) = false := by simp; omega
            have HRd : Hid (Calls Try.prog 21 #[.pointer (some ⟨p, 0, none⟩), .int .i64 0, .int .i64 128] wr fun e w' => ∃ g, e = .returned (.tuple #[.slice (some ⟨g, 0, none⟩) 128 128, .int .i64 0]) ∧ Row w' g xs ∧ Ar w' p q0 (some γ) xs (more st 128) 0 ∧ But (Mine q0 (some γ)) wr w' ∧ wr.heap.size ≤ g) := Lib.hid (read_whole HS.out.mw.ar HS.out.len)
            go_wp2_with fail
            refine HRd.out.mono ?_
            rintro e w4 ⟨h', rfl, r4, a4, b4, hf⟩
            have C4 := Lib.hid (HS.out.below.trans (Ar.mine b4 HS.out.below.size F.out.q0_ (fun _ e => by cases e; exact F.out.g_)))
            have XC := HS.out.cs.but b4 (fun e => by rcases e with e | e; exact F.out.xq0 e; injection e with e; exact F.out.xg e.symm)
            have x0 := XC.cell 0 _ rfl
            have Y4 := HS.out.bytes.butAt b4 (Nat.le_refl _) (fun e => by rcases e with e | e; exact HS.out.bq0 e; injection e with e; exact HS.out.bg e.symm)
            have hs1 : (convert 22 9 (.slice (some ⟨h', 0, none⟩) 128 128)).run Try.prog w4 = .ok (.string (strOfNums xs)) w4 := string_run (r4.all HS.out.len)
            have hs2 : (convert 22 9 (.slice (some ⟨b', o, none⟩) 128 c)).run Try.prog w4 = .ok (.string (strOfNums xs)) w4 := string_run Y4
            generalize strOfNums xs = Sg at hs1 hs2
            clear Y4 XC r4 a4 b4 hf HRd
            go_wp2
            go_ret
            exact ⟨rfl, HD.out _ C4.out⟩
      · have HM := Lib.hid (moveNew_bad A5.out n0 n1 n2 (by omega) (by rw [hb.len]; exact hmay))
        have HR := Lib.hid (refMoveNew_bad (N := 128) (c := c0) (st := 128) (some ⟨b0, 0, none⟩) n0 n1 n2 W5 (by omega) (by omega) hmay)
        have w00 := W0.out.cell 0 _ rfl
        have w01 := W0.out.cell 1 _ rfl
        clear hmay
        go_wp2_with fail
        rw [← hW5] at nz0 nz1 nz2 B5 HM ⊢
        clear hW5
        refine HM.out.mono ?_
        rintro e w6 ⟨rfl, rfl⟩
        go_wp2_with fail
        refine HR.out.mono ?_
        rintro e w7 ⟨rfl, b7⟩
        have B7 := Lib.hid (belowT B5.out b7)
        clear b7 HM HR
        go_wp2
        go_ret
        exact ⟨rfl, HD.out _ (belowT B7.out (below1 w7 _))⟩
  · have d128 : ((lb : Int) != 128) = true := by simp; omega
    go_wp2
    go_ret
    exact ⟨rfl, HD.out _ H0.out⟩

/-! ### The frame of the row -/
set_option maxRecDepth 100000 in
theorem lifted (os : Os) (started : os.Started) (H : Type) (enc : TypeId × Value → H) :
    ReturnsInHanded {} Try.checked os 3 .any (Rows.moveActsSpec.pre6 enc Try.prog Try.f3 Rows.moveActsRow.domain false) (Rows.moveActsSpec.post enc Try.prog Try.f3 false true false false) := by
  refine returnsInHanded_of_change (C := Try.checked) own started (by kernel_rfl) Try.func3
    (ChangeSpec.witness6 (enc := enc) (C := Try.checked) false ⟨#[], #[.slice none 0 0, .agg #[.int .i64 0, .int .i64 0, .int .i64 0], .slice none 0 0], []⟩ 8 (by kernel_rfl) (by kernel_rfl) (by kernel_rfl) (by kernel_rfl)) ?_
  intro W base args ds gs before hval0 hW hcnd _
  have hval : ∀ (j : Nat) t v, Try.f3.params[j]? = some t → args[j]? = some v → Value.okWide Try.prog W .any base t v := hval0
  have hW' := hW
  obtain ⟨p, q, hA0, hV, rfl, hfz, hnd⟩ := hW
  have hA : DataW.TrodAll enc Try.prog W 0 (fun _ => true) true Try.f3.params.toList args.toList ds p := hA0
  rw [Try.params3] at hA hval
  obtain ⟨v0, vs0, d0, ds0, p0, q0, hargs, rfl, rfl, h0, r0⟩ := trodAll_cons hA
  obtain ⟨v1, vs1, d1, ds1, p1, q1, rfl, rfl, rfl, h1, r1⟩ := trodAll_cons r0
  obtain ⟨v2, vs2, d2, ds2, p2, q2, rfl, rfl, rfl, h2, r2⟩ := trodAll_cons r1
  obtain ⟨rfl, rfl, rfl⟩ := trodAll_nil r2
  obtain rfl : args = #[v0, v1, v2] := by cases args; simp_all
  obtain ⟨rfl, rfl⟩ := trodVars_none hV
  have k0 := h0
  have lt0 : ∀ x ∈ p0, x.block < W.heap.size := by obtain ⟨m, hm⟩ := k0; exact DataW.trod_lt m _ _ _ hm
  obtain ⟨ab, lb, cb, rfl⟩ := okWide_slice Try.underlying22 (hval 0 22 v0 rfl rfl)
  obtain ⟨b, hcb, hb⟩ : ∃ xs, lb ≤ cb ∧ Bytes W W.heap.size ab lb xs := by
    obtain ⟨fuel, hf⟩ := h0
    obtain ⟨a, l, c, xs, e, hl, hi⟩ := bytes_field (by simpa [Value.cells] using hf)
    injection e with e1 e2 e3
    subst e1 e2 e3
    exact ⟨xs, hl, hi⟩
  have k1 := h1
  have lt1 : ∀ x ∈ p1, x.block < W.heap.size := by obtain ⟨m, hm⟩ := k1; exact DataW.trod_lt m _ _ _ hm
  obtain ⟨n0, n1, n2, rfl, hn0, hn1, hn2⟩ := open_three (hval 1 23 v1 rfl rfl) h1
  have k2 := h2
  have lt2 : ∀ x ∈ p2, x.block < W.heap.size := by obtain ⟨m, hm⟩ := k2; exact DataW.trod_lt m _ _ _ hm
  obtain ⟨al, ll, cl, rfl⟩ := okWide_slice Try.underlying24 (hval 2 24 v2 rfl rfl)
  obtain ⟨l, hcl, hl⟩ : ∃ xs, ll ≤ cl ∧ Acts W W.heap.size al ll xs := by
    obtain ⟨fuel, hf⟩ := h2
    obtain ⟨a, l, c, xs, e, hl, hi⟩ := acts_field (by simpa [Value.cells] using hf)
    injection e with e1 e2 e3
    subst e1 e2 e3
    exact ⟨xs, hl, hi⟩
  clear hA0 hval0
  refine (walk ab lb cb b n0 n1 n2 al ll cl l W hb hcb hn0 hn1 hn2 hl hcl).mono fun e W' ⟨he, bel⟩ => ?_
  subst he
  exact ⟨_, rfl, _, _, _, [], _, [], hW', trodAll_mk1 (shut_bool Try.underlying4 _), (trodAll_cons_mk (Below.trod laidOut (by kernel_rfl) (of_decide_eq_true (by kernel_rfl)) k0 bel lt0) (trodAll_cons_mk (Below.trod laidOut (by kernel_rfl) (of_decide_eq_true (by kernel_rfl)) k1 bel lt1) (trodAll_cons_mk (Below.trod laidOut (by kernel_rfl) (of_decide_eq_true (by kernel_rfl)) k2 bel lt2) trodAll_mk0))), rfl, bel.frame _, fun h => by cases h⟩

theorem over : Rows.moveActsRow.holds Try.pinned (OpenSpec.ofChange Rows.moveActsSpec) :=
  OpenClaim.holds_of_wide 3 Try.f3 rfl rfl rfl rfl rfl rfl rfl ⟨rfl, rfl, rfl, rfl, rfl⟩ rfl rfl rfl rfl rfl (by kernel_rfl) Try.func3 (by kernel_rfl)
    (of_decide_eq_true (by kernel_rfl)) (by unfold Func.isWrapper; first | (rw [if_pos (by decide +kernel)]; kernel_rfl) | (rw [if_neg (by decide +kernel)]; exact ⟨rfl, rfl⟩))
    (fun os started H enc _ => lifted os started H enc)

theorem proved : Rows.MoveActsSaid := over
#print axioms proved
end Go.Proofs.Ytadljlkflmodiaa.moveActs
