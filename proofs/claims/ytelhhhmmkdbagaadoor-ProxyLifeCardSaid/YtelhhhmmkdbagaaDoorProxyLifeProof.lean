/-
  ProxyLife: a handle that is taken is looked up, until it is given back, whatever else is taken and given back; then it is stale, and no other handle is the same. The bounds of package ident stand as its text lays them (a tied card). No other condition.
-/
import Derived.Test.YtelhhhmmkdbagaaDoorRows
import Derived.Test.YtelhhhmmkdbagaaDoorCards
import Derived.Test.YtelhhhmmkdbagaaDoorTie
import Derived.Deep.DeepHandedRow
import Derived.SevenTiedAt
import Derived.WalkKit
import Derived.ProofKit
import Derived.OpenShut
import Derived.Test.YtelhhhmmkdbagaaDoorProxyAwake
import Derived.Test.YtelhhhmmkdbagaaDoorProxyRunAny
import Derived.Test.YtelhhhmmkdbagaaDoorProxyLife
import Derived.Test.YtelhhhmmkdbagaaDoorIdentLaid
import Derived.ShutString
import Derived.ChangeOld
import Derived.Below
namespace Go.Proofs.YtelhhhmmkdbagaaDoor.proxyLife
open Go.ChangeShapes Go.WideShapes Go.ChangeAt Go.RowKit
open Go.ChangeMaps (open_string shut_string)
set_option linter.unusedVariables false

theorem own : ownKnob Tryd.prog.godebug = none := by kernel_rfl
theorem laidOut : laidOutB Tryd.prog = true := by kernel_rfl

/-! ### The walk -/
set_option maxRecDepth 20000 in
set_option maxHeartbeats 4000000 in
theorem walk (n0 n1 : Int) (al : Option Addr) (ll cl : Nat) (l : List Ac) (amore : Option Addr) (lmore cmore : Nat) (more : List Ac) (w : World) (hL0 : Bd w) (hn0 : 0 ≤ n0 ∧ n0 ≤ 255) (hn1 : 0 ≤ n1 ∧ n1 ≤ 255) (hl : Acts w w.heap.size al ll l) (hcl : ll ≤ cl) (hmore : Acts w w.heap.size amore lmore more) (hcmore : lmore ≤ cmore) :
    Calls Tryd.prog 6 #[.agg #[.int .u8 n0, .int .u8 n1], .slice al ll cl, .slice amore lmore cmore] w fun e w' => e = .returned (.bool true) ∧ Below w.heap.size w w' := by
  have hpos := hL0.pos
  have hbx := below1 w (.cells #[.int .u8 n0, .int .u8 n1] 22)
  have A := Lib.hid (awake10_any (w.alloc (.cells #[.int .u8 n0, .int .u8 n1] 22)) (hL0.below hpos hbx))
  have HBD := Lib.hid (hL0.below hpos hbx)
  have HX := Lib.hid hbx
  have HN : Hid ((w.alloc (.cells #[.int .u8 n0, .int .u8 n1] 22)).cell? ⟨w.heap.size, 0, none⟩ = some (.int .u8 n0) ∧ (w.alloc (.cells #[.int .u8 n0, .int .u8 n1] 22)).cell? ⟨w.heap.size, 1, none⟩ = some (.int .u8 n1)) := Lib.hid ⟨by go_simp, by go_simp⟩
  have hmax := hl.max
  have hmax2 := hmore.max
  obtain ⟨K, hK⟩ : ∃ K : Nat, 1 + n0 % 8 = (K : Int) := ⟨(1 + n0 % 8).toNat, by omega⟩
  obtain ⟨M, hM⟩ : ∃ M : Int, 1 + n1 % 4 = M := ⟨_, rfl⟩
  have hK8 : K ≤ 8 := by omega
  have hM4 : M ≤ 4 := by omega
  have HK := Lib.hid hK
  have HM := Lib.hid hM
  clear hL0 hbx hK hM
  go_enter Tryd.func6, Tryd.ntmps6
  go_wp2_with fail
  refine A.out.mono ?_
  rintro e w0 ⟨rfl, h0⟩
  have H0 := Lib.hid (belowT HX.out h0)
  have BD0 := Lib.hid (HBD.out.below HBD.out.pos h0)
  have x0 := (h0.cell (p := ⟨w.heap.size, 0, none⟩) (lt_of_cell (p := ⟨w.heap.size, 0, none⟩) HN.out.1)).trans HN.out.1
  have x1 := (h0.cell (p := ⟨w.heap.size, 1, none⟩) (lt_of_cell (p := ⟨w.heap.size, 1, none⟩) HN.out.2)).trans HN.out.2
  clear h0 A
  by_cases hll : 40 < ll
  · have d1 : decide ((40 : Int) < (ll : Int)) = true := by simp; omega
    go_wp2
    go_ret
    exact ⟨rfl, H0.out⟩
  have d1 : decide ((40 : Int) < (ll : Int)) = false := by simp; omega
  by_cases hlm : 40 < lmore
  · have d2 : decide ((40 : Int) < (lmore : Int)) = true := by simp; omega
    go_wp2
    go_ret
    exact ⟨rfl, H0.out⟩
  have d2 : decide ((40 : Int) < (lmore : Int)) = false := by simp; omega
  have HR := Lib.hid (run10_any n0 n1 hn0 hn1 K M HK.out HM.out al ll cl l w.heap.size w0 H0.out.size (hl.below H0.out) BD0.out)
  go_wp2_with fail
  refine HR.out.mono ?_
  rintro e w2 ⟨p, a, T, ga, gc, la, lc, fa, fc, n', P, rfl, m2, r2, b2, ⟨hp, ha⟩, _⟩
  have hb3 := below1 w2 (.cells #[.slice ga K gc, .slice la K lc, .slice fa n' fc, .int .i64 M] 29)
  have M3 := Lib.hid (m2.below hb3)
  have B3 := Lib.hid (belowT (belowT H0.out b2) hb3)
  have HP : Hid (w.heap.size ≤ p ∧ w.heap.size ≤ a) := Lib.hid (by have := H0.out.size; omega)
  clear m2 r2 b2 hb3 HR x0 x1 hp ha d1
  obtain ⟨G, L, fl⟩ := T
  cases fl with
  | nil =>
    have TK := Lib.hid (take_none M3.out rfl)
    go_wp2_with fail
    generalize w2.alloc (.cells #[.slice ga K gc, .slice la K lc, .slice fa n' fc, .int .i64 M] 29) = w3 at M3 B3 TK ⊢
    refine TK.out.mono ?_
    rintro e w4 ⟨rfl, m4, b4⟩
    have LF : Hid (Calls Tryd.prog 12 #[.pointer (some ⟨p, 0, none⟩)] w4 (R1 0 w4)) := Lib.hid (left_any m4)
    have B4 := Lib.hid (B3.out.trans (Own.below b4 B3.out.size HP.out.1 HP.out.2))
    clear m4 b4 TK
    go_wp2_with fail
    refine LF.out.mono ?_
    rintro e w5 ⟨rfl, rfl⟩
    go_wp2
    go_ret
    exact ⟨rfl, B4.out⟩
  | cons x r =>
    obtain ⟨s, rfl, _, g, hg, _⟩ := M3.out.wf.free x (by simp)
    have TK := Lib.hid (take_ok M3.out hg)
    have LF0 := Lib.hid (Lf.took M3.out.wf hg (by omega) (by omega))
    obtain ⟨h, hh⟩ : ∃ h, 4096 * g + (s : Int) = h := ⟨_, rfl⟩
    rw [hh] at TK
    have HH := Lib.hid hh
    have hb2 : 0 ≤ h ∧ h ≤ 4194303 := by have := LF0.out.k4; have := LF0.out.g1; have := LF0.out.g2; omega
    clear hg hh
    go_wp2_with fail
    generalize w2.alloc (.cells #[.slice ga K gc, .slice la K lc, .slice fa n' fc, .int .i64 M] 29) = w3 at M3 B3 TK ⊢
    refine TK.out.mono ?_
    rintro e w4 ⟨rfl, m4, b4⟩
    have M4 := Lib.hid m4
    have B4 := Lib.hid (B3.out.trans (Own.below b4 B3.out.size HP.out.1 HP.out.2))
    clear m4 b4 TK M3 B3
    go_wp2
    go_loopw [15, 14] (fun i m wr => ∃ (j : Nat) (gone : Bool) (T : Tb), j ≤ lmore ∧ i = .int .i64 j ∧ m = .bool gone ∧ Tm wr p a K M T ∧ Lf T s g gone ∧ Below w.heap.size w wr) (fun i _ _ => lmore - (intOf i).toNat)
    case atStart => exact ⟨0, false, _, by omega, rfl, rfl, M4.out, LF0.out, B4.out⟩
    case round =>
      obtain ⟨j, gone, T, hj, rfl, rfl, mr, lr, br⟩ := hrel
      have MR := Lib.hid mr
      have LR := Lib.hid lr
      have BR := Lib.hid br
      clear mr lr br M4 LF0 B4
      by_cases hlt : j < lmore
      · have dk : decide ((j : Int) < (lmore : Int)) = true := by simp; omega
        have U1 := Lib.hid (hmore.below BR.out)
        obtain ⟨b0, o0, rfl, hb0, hc0⟩ := U1.out.head (by omega)
        obtain ⟨u, hu, hfit⟩ := U1.out.at_ hlt
        have y0 : wr.cell? ⟨b0, o0 + j * 3, none⟩ = some (.bool u.give) := hc0 j u hu 0 _ rfl
        have y1 : wr.cell? ⟨b0, o0 + j * 3 + 1, none⟩ = some (.int .u8 u.n) := hc0 j u hu 1 _ rfl
        have y2 : wr.cell? ⟨b0, o0 + j * 3 + 2, none⟩ = some (.int .u8 u.gen) := hc0 j u hu 2 _ rfl
        have HF : Hid ((0 ≤ u.n ∧ u.n ≤ 255) ∧ 0 ≤ u.gen ∧ u.gen ≤ 255) := Lib.hid hfit
        have hpn : ¬ b0 = p := by have := HP.out.1; omega
        have han : ¬ b0 = a := by have := HP.out.2; omega
        clear hc0 hu hfit
        cases hg : u.give with
        | true =>
          rw [hg] at y0
          have HHn := Lib.hid (fun v => handle_any u true HF.out.1 HF.out.2 v)
          obtain ⟨q1, q2⟩ := hnd_in u
          generalize hnd u = x at HHn q1 q2
          go_wp2_with fail
          refine (HHn.out _).mono ?_
          rintro e wh ⟨rfl, bh⟩
          have HD := Lib.hid (give_any (MR.out.below bh) (n := x) (by omega) (by omega))
          have BH0 := Lib.hid bh
          clear bh
          go_wp2_with fail
          refine HD.out.mono ?_
          rintro e w4 ⟨rfl, m4, b4'⟩
          have b4 : But (Own p a) wr w4 := (Below.but BH0.out (Own p a)).trans b4'
          have z0 := (b4.cell (p := ⟨b0, o0 + j * 3, none⟩) (lt_of_cell (p := ⟨b0, o0 + j * 3, none⟩) y0) (fun e => by rcases e with e | e; exact hpn e; exact han e)).trans y0
          have z1 := (b4.cell (p := ⟨b0, o0 + j * 3 + 1, none⟩) (lt_of_cell (p := ⟨b0, o0 + j * 3 + 1, none⟩) y1) (fun e => by rcases e with e | e; exact hpn e; exact han e)).trans y1
          have z2 := (b4.cell (p := ⟨b0, o0 + j * 3 + 2, none⟩) (lt_of_cell (p := ⟨b0, o0 + j * 3 + 2, none⟩) y2) (fun e => by rcases e with e | e; exact hpn e; exact han e)).trans y2
          have hLg := LR.out.give MR.out.wf (by omega) x
          rw [HH.out] at hLg
          generalize giveOut M T x = gv at hLg m4 ⊢
          obtain ⟨T4, f4⟩ := gv
          have LG := Lib.hid hLg
          have M4 := Lib.hid (show Tm w4 p a K M T4 from m4)
          have B4 := Lib.hid (BR.out.trans (Own.below b4 BR.out.size HP.out.1 HP.out.2))
          clear hLg m4 b4 b4' y0 y1 y2 HD BH0
          cases gone with
          | true =>
            have LG2 : Hid (Lf T4 s g true) := LG
            have LKt := look_any M4.out (n := h) (by omega) (by omega)
            rw [show lookOut T4 h = (0, 6) by rw [← HH.out, LG2.out.look]; rfl] at LKt
            have LK := Lib.hid LKt
            clear LKt
            go_wp2_with fail
            refine LK.out.mono ?_
            rintro e w5 ⟨rfl, b5⟩
            have M5 := Lib.hid (M4.out.below b5)
            have B5 := Lib.hid (B4.out.trans (b5.mono B4.out.size))
            clear b5 z0 z1 z2 LK
            go_wp2
            go_roundw
            case rel => exact ⟨j + 1, true, T4, by omega, by go_num, rfl, M5.out, LG2.out, B5.out⟩
            case measure => simp [intOf]; omega
          | false =>
            by_cases hf : f4 = 0
            · subst hf
              by_cases hx : x = h
              · have ex : (x == h) = true := by simpa using hx
                have LG2 : Hid (Lf T4 s g true) := Lib.hid (by have := LG.out; simpa [hx] using this)
                go_wp2_with fail
                refine (HHn.out _).mono ?_
                rintro e w5 ⟨rfl, b5⟩
                have M5 := Lib.hid (M4.out.below b5)
                have B5 := Lib.hid (B4.out.trans (b5.mono B4.out.size))
                have LKt := look_any M5.out (n := h) (by omega) (by omega)
                rw [show lookOut T4 h = (0, 6) by rw [← HH.out, LG2.out.look]; rfl] at LKt
                have LK := Lib.hid LKt
                clear LKt b5 z0 z1 z2
                go_wp2_with fail
                refine LK.out.mono ?_
                rintro e w6 ⟨rfl, b6⟩
                have M6 := Lib.hid (M5.out.below b6)
                have B6 := Lib.hid (B5.out.trans (b6.mono B5.out.size))
                clear b6 LK
                go_wp2
                go_roundw
                case rel => exact ⟨j + 1, true, T4, by omega, by go_num, rfl, M6.out, LG2.out, B6.out⟩
                case measure => simp [intOf]; omega
              · have ex : (x == h) = false := by simpa using hx
                have LG2 : Hid (Lf T4 s g false) := Lib.hid (by have := LG.out; simpa [hx] using this)
                go_wp2_with fail
                refine (HHn.out _).mono ?_
                rintro e w5 ⟨rfl, b5⟩
                have M5 := Lib.hid (M4.out.below b5)
                have B5 := Lib.hid (B4.out.trans (b5.mono B4.out.size))
                have LKt := look_any M5.out (n := h) (by omega) (by omega)
                rw [show lookOut T4 h = ((s : Int), 0) by rw [← HH.out, LG2.out.look]; rfl] at LKt
                have LK := Lib.hid LKt
                have es : ((s : Int) != (s : Int)) = false := by simp
                clear LKt b5 z0 z1 z2
                go_wp2_with fail
                refine LK.out.mono ?_
                rintro e w6 ⟨rfl, b6⟩
                have M6 := Lib.hid (M5.out.below b6)
                have B6 := Lib.hid (B5.out.trans (b6.mono B5.out.size))
                clear b6 LK
                go_wp2
                go_roundw
                case rel => exact ⟨j + 1, false, T4, by omega, by go_num, rfl, M6.out, LG2.out, B6.out⟩
                case measure => simp [intOf]; omega
            · have ef : (f4 == 0) = false := by simpa using hf
              have LG2 : Hid (Lf T4 s g false) := Lib.hid (by have := LG.out; simpa [hf] using this)
              have LKt := look_any M4.out (n := h) (by omega) (by omega)
              rw [show lookOut T4 h = ((s : Int), 0) by rw [← HH.out, LG2.out.look]; rfl] at LKt
              have LK := Lib.hid LKt
              have es : ((s : Int) != (s : Int)) = false := by simp
              clear LKt z0 z1 z2
              go_wp2_with fail
              refine LK.out.mono ?_
              rintro e w6 ⟨rfl, b6⟩
              have M6 := Lib.hid (M4.out.below b6)
              have B6 := Lib.hid (B4.out.trans (b6.mono B4.out.size))
              clear b6 LK
              go_wp2
              go_roundw
              case rel => exact ⟨j + 1, false, T4, by omega, by go_num, rfl, M6.out, LG2.out, B6.out⟩
              case measure => simp [intOf]; omega
        | false =>
          rw [hg] at y0
          have HD := Lib.hid (take_any MR.out)
          go_wp2_with fail
          refine HD.out.mono ?_
          rintro e w4 ⟨rfl, m4, b4⟩
          have hLt := LR.out.take MR.out.wf (by omega)
          rw [HH.out] at hLt
          generalize takeOut T = tk at hLt m4 ⊢
          obtain ⟨T4, k4, s4, f4⟩ := tk
          have LG2 : Hid (Lf T4 s g gone) := Lib.hid hLt.1
          have hne : Hid (f4 = 0 → k4 ≠ h) := Lib.hid hLt.2
          have M4 := Lib.hid (show Tm w4 p a K M T4 from m4)
          have B4 := Lib.hid (BR.out.trans (Own.below b4 BR.out.size HP.out.1 HP.out.2))
          have LKt := look_any M4.out (n := h) (by omega) (by omega)
          rw [show lookOut T4 h = (if gone = true then ((0 : Int), (6 : Int)) else ((s : Int), 0)) by rw [← HH.out]; exact LG2.out.look] at LKt
          have es : ((s : Int) != (s : Int)) = false := by simp
          clear hLt m4 b4 y0 y1 y2 HD
          have TWO : Hid ((f4 == 0) = false ∨ ((f4 == 0) = true ∧ (k4 == h) = false)) := Lib.hid (by
            by_cases hf : f4 = 0
            · exact Or.inr ⟨by simpa using hf, by simpa using hne.out hf⟩
            · exact Or.inl (by simpa using hf))
          cases gone with
          | true =>
            have LK : Hid (Calls Tryd.prog 10 #[.pointer (some ⟨p, 0, none⟩), .int .i64 h] w4 (P2 0 6 w4)) := Lib.hid LKt
            clear LKt
            rcases TWO.out with ef | ⟨ef, ek⟩
            all_goals
              go_wp2_with fail
              refine LK.out.mono ?_
              rintro e w6 ⟨rfl, b6⟩
              have M6 := Lib.hid (M4.out.below b6)
              have B6 := Lib.hid (B4.out.trans (b6.mono B4.out.size))
              clear b6 LK
              go_wp2
              go_roundw
              case rel => exact ⟨j + 1, true, T4, by omega, by go_num, rfl, M6.out, LG2.out, B6.out⟩
              case measure => simp [intOf]; omega
          | false =>
            have LK : Hid (Calls Tryd.prog 10 #[.pointer (some ⟨p, 0, none⟩), .int .i64 h] w4 (P2 (s : Int) 0 w4)) := Lib.hid LKt
            clear LKt
            rcases TWO.out with ef | ⟨ef, ek⟩
            all_goals
              go_wp2_with fail
              refine LK.out.mono ?_
              rintro e w6 ⟨rfl, b6⟩
              have M6 := Lib.hid (M4.out.below b6)
              have B6 := Lib.hid (B4.out.trans (b6.mono B4.out.size))
              clear b6 LK
              go_wp2
              go_roundw
              case rel => exact ⟨j + 1, false, T4, by omega, by go_num, rfl, M6.out, LG2.out, B6.out⟩
              case measure => simp [intOf]; omega
      · have dk : decide ((j : Int) < (lmore : Int)) = false := by simp; omega
        go_wp2
        go_ret
        exact ⟨rfl, BR.out⟩

/-! ### The frame of the row -/
theorem laid_met (os : Os) : laidMet Tryd.prog Rows.proxyLifeRow.laid ((laidWorld os).forCall (fun _ _ => 0) ⟨#[], #[.agg #[.int .u8 0, .int .u8 0], .slice none 0 0, .slice none 0 0], []⟩).memory :=
  laidMet_of_run' 8 (by kernel_rfl) (by kernel_rfl)
theorem reads (os : Os) {H : Type} (enc : TypeId × Value → H) : ∃ places, DataW.whole enc Tryd.prog ((laidWorld os).forCall (fun _ _ => 0) ⟨#[], #[.agg #[.int .u8 0, .int .u8 0], .slice none 0 0, .slice none 0 0], []⟩).memory Tryd.f6.params.toList Rows.proxyLifeSpec.vars false (#[.agg #[.int .u8 0, .int .u8 0], .slice none 0 0, .slice none 0 0] : Array Value).toList 8 = some ([.agg [.lit (.int .u8 0), .lit (.int .u8 0)], .nil, .nil], [], places) :=
  ⟨[], by kernel_rfl⟩
set_option maxRecDepth 100000 in
theorem lifted (os : Os) (started : os.Started) (H : Type) (enc : TypeId × Value → H) (F : Stop.Interp) :
    ReturnsInHanded {} Tryd.checked os 6 .any ((OpenSpec.ofChange Rows.proxyLifeSpec).preRow enc Tryd.prog Tryd.f6 Rows.proxyLifeRow.domain false Rows.proxyLifeRow.laid) (((OpenSpec.ofChange Rows.proxyLifeSpec).at F).post enc Tryd.prog Tryd.f6 false true false false) := by
  obtain ⟨places, hx⟩ := reads os enc
  refine returnsInHanded_of_row (C := Tryd.checked) (s := OpenSpec.ofChange Rows.proxyLifeSpec) own started (by kernel_rfl) Tryd.func6
    (witness_row_at (enc := enc) (C := Tryd.checked) false (laidWorld os) #[.agg #[.int .u8 0, .int .u8 0], .slice none 0 0, .slice none 0 0] rfl (by kernel_rfl) (by kernel_rfl) (by kernel_rfl)
      (OpenSpec.preRow_of_cond 8 hx (by kernel_rfl) (fun k hk => by cases hk) (by kernel_rfl) (laid_met os))) ?_
  intro W base args ds gs before hval0 hW _ _ _ hL _ _
  have hval : ∀ (j : Nat) t v, Tryd.f6.params[j]? = some t → args[j]? = some v → Value.okWide Tryd.prog W .any base t v := hval0
  have hW' := hW
  obtain ⟨p, q, hA0, hV, rfl, hfz, hnd⟩ := hW
  have hA : DataW.TrodAll enc Tryd.prog W 0 (fun _ => true) true Tryd.f6.params.toList args.toList ds p := hA0
  rw [Tryd.params6] at hA hval
  obtain ⟨v0, vs0, d0, ds0, p0, q0, hargs, rfl, rfl, h0, r0⟩ := trodAll_cons hA
  obtain ⟨v1, vs1, d1, ds1, p1, q1, rfl, rfl, rfl, h1, r1⟩ := trodAll_cons r0
  obtain ⟨v2, vs2, d2, ds2, p2, q2, rfl, rfl, rfl, h2, r2⟩ := trodAll_cons r1
  obtain ⟨rfl, rfl, rfl⟩ := trodAll_nil r2
  obtain rfl : args = #[v0, v1, v2] := by cases args; simp_all
  obtain ⟨rfl, rfl⟩ := trodVars_none hV
  have k0 := h0
  have lt0 : ∀ x ∈ p0, x.block < W.heap.size := by obtain ⟨m, hm⟩ := k0; exact DataW.trod_lt m _ _ _ hm
  obtain ⟨n0, n1, rfl, hn0, hn1⟩ := open_two (hval 0 22 v0 rfl rfl) h0
  have k1 := h1
  have lt1 : ∀ x ∈ p1, x.block < W.heap.size := by obtain ⟨m, hm⟩ := k1; exact DataW.trod_lt m _ _ _ hm
  obtain ⟨al, ll, cl, rfl⟩ := okWide_slice Tryd.underlying23 (hval 1 23 v1 rfl rfl)
  obtain ⟨l, hcl, hl⟩ : ∃ xs, ll ≤ cl ∧ Acts W W.heap.size al ll xs := by
    obtain ⟨fuel, hf⟩ := h1
    obtain ⟨a, l, c, xs, e, hl, hi⟩ := acts_field (by simpa [Value.cells] using hf)
    injection e with e1 e2 e3
    subst e1 e2 e3
    exact ⟨xs, hl, hi⟩
  have k2 := h2
  have lt2 : ∀ x ∈ p2, x.block < W.heap.size := by obtain ⟨m, hm⟩ := k2; exact DataW.trod_lt m _ _ _ hm
  obtain ⟨amore, lmore, cmore, rfl⟩ := okWide_slice Tryd.underlying23 (hval 2 23 v2 rfl rfl)
  obtain ⟨more, hcmore, hmore⟩ : ∃ xs, lmore ≤ cmore ∧ Acts W W.heap.size amore lmore xs := by
    obtain ⟨fuel, hf⟩ := h2
    obtain ⟨a, l, c, xs, e, hl, hi⟩ := acts_field (by simpa [Value.cells] using hf)
    injection e with e1 e2 e3
    subst e1 e2 e3
    exact ⟨xs, hl, hi⟩
  clear hA0 hval0
  refine (walk n0 n1 al ll cl l amore lmore cmore more W (bd_of hL) hn0 hn1 hl hcl hmore hcmore).mono fun e W' ⟨he, bel⟩ => ?_
  subst he
  exact ⟨_, rfl, _, _, _, [], _, [], hW', trodAll_mk1 (shut_bool Tryd.underlying4 _), (trodAll_cons_mk (Below.trod laidOut (by kernel_rfl) (of_decide_eq_true (by kernel_rfl)) k0 bel lt0) (trodAll_cons_mk (Below.trod laidOut (by kernel_rfl) (of_decide_eq_true (by kernel_rfl)) k1 bel lt1) (trodAll_cons_mk (Below.trod laidOut (by kernel_rfl) (of_decide_eq_true (by kernel_rfl)) k2 bel lt2) trodAll_mk0))), rfl, bel.frame _, fun h => by cases h⟩

theorem said : Rows.ProxyLifeSaid :=
  OpenClaim.holds_of_cond 6 Tryd.f6 rfl rfl rfl rfl rfl rfl rfl ⟨rfl, rfl, rfl, rfl, rfl⟩ rfl rfl rfl rfl rfl (by kernel_rfl) Tryd.func6 (by kernel_rfl)
    (of_decide_eq_true (by kernel_rfl)) (by unfold Func.isWrapper; first | (rw [if_pos (by decide +kernel)]; kernel_rfl) | (rw [if_neg (by decide +kernel)]; exact ⟨rfl, rfl⟩))
    (fun os started H enc _ F => by rw [OpenClaim.pre_eq_preRow]; exact lifted os started H enc F)

theorem plain (f : FuncId) (fn : Func) (hf : Tryd.pinned.checked.prog.funcNamed "almery/almerylaw10.ProxyLife" = some f) (hfn : Tryd.pinned.checked.prog.funcs[f]? = some fn) :
    false = Tryd.pinned.checked.prog.looks [] ∧ ∀ (j : Nat) t, fn.params[j]? = some t → Tryd.pinned.checked.prog.wantsStandIn t = false := by
  obtain rfl : f = 6 := Option.some.inj ((show Tryd.prog.funcNamed "almery/almerylaw10.ProxyLife" = some 6 by kernel_rfl).symm.trans hf) |>.symm
  obtain rfl : fn = Tryd.f6 := (Option.some.inj (Tryd.func6.symm.trans hfn)).symm
  refine ⟨by kernel_rfl, fun j t ht => ?_⟩
  rw [Tryd.params6] at ht
  match j, ht with
  | 0, ht =>
    obtain rfl : t = 22 := by simpa using ht.symm
    exact (show Tryd.prog.wantsStandIn 22 = false by kernel_rfl)
  | 1, ht =>
    obtain rfl : t = 23 := by simpa using ht.symm
    exact (show Tryd.prog.wantsStandIn 23 = false by kernel_rfl)
  | 2, ht =>
    obtain rfl : t = 23 := by simpa using ht.symm
    exact (show Tryd.prog.wantsStandIn 23 = false by kernel_rfl)
  | j + 3, ht => simp at ht

theorem proved : Rows.ProxyLifeCardSaid :=
  Claim7.holds_tied_plain_at .later [] _ _ _ _ said (fun _ h => by cases h) (by kernel_rfl) (fun _ h => by cases h) proxyLife_row_tie rfl ⟨rfl, rfl⟩ (by kernel_rfl) rfl plain (by kernel_rfl)
#print axioms proved
end Go.Proofs.YtelhhhmmkdbagaaDoor.proxyLife
