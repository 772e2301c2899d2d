/-
  ShelfBack: a block that is taken, and given back, leaves the pages' blocks as they were; a pool without pages lets none be taken. No condition.
-/
import Derived.Test.YtijkigibcpgciaaRows
import Derived.WalkKit
import Derived.ProofKit
import Derived.OpenShut
import Derived.Test.YtijkigibcpgciaaZShAwake
import Derived.Test.YtijkigibcpgciaaZShBack
import Derived.ShutString
import Derived.ChangeOld
import Derived.Below
namespace Go.Proofs.Ytijkigibcpgciaa.shelfBack
open Go.ChangeShapes Go.WideShapes Go.ChangeAt Go.RowKit
open Go.ChangeMaps (open_string shut_string)
set_option linter.unusedVariables false

theorem own : ownKnob Try.prog.godebug = none := by kernel_rfl
theorem laidOut : laidOutB Try.prog = true := by kernel_rfl

/-! ### The walk -/
set_option maxRecDepth 100000 in
set_option maxHeartbeats 4000000 in
theorem walk (n : Int) (al : Option Addr) (ll cl : Nat) (l : List Ac) (w : World) (hn : (Lit.int .u8 n).wf = true) (hl : Acts w w.heap.size al ll l) (hcl : ll ≤ cl) :
    Calls Try.prog 7 #[.int .u8 n, .slice al ll cl] w fun e w' => e = .returned (.bool true) ∧ Below w.heap.size w w' := by
  have hmax := hl.max
  have A := Lib.hid (Sh.awake13_any w)
  have n12 := wfu8 hn
  obtain ⟨B, hB⟩ : ∃ B : Nat, 1 + n % 4 = (B : Int) := ⟨(1 + n % 4).toNat, by omega⟩
  have hB1 : 1 ≤ B := by omega
  have hB2 : B ≤ 4 := by omega
  have hm : n.tmod 4 = (B : Int) - 1 := by rw [Int.tmod_eq_emod_of_nonneg (by omega)]; omega
  have hm2 : n % 4 = (B : Int) - 1 := by omega
  have wB : IntKind.i64.wrap (1 + ((B : Int) - 1)) = (B : Int) := by rw [IntWalk.i64_in _ (by omega)]; omega
  have wn : IntKind.i64.wrap n = n := IntWalk.i64_in _ (by omega)
  have HN : Hid (∀ w, Calls Try.prog 10 #[.int .i64 3] w fun e w' => ∃ p a, e = .returned (.tuple #[.pointer (some ⟨p, 0, none⟩), .int .i64 0]) ∧ Pl.Pm w' p a 3 (Pl.freed 3) (Pl.turns 3) ∧ Below w.heap.size w w' ∧ w.heap.size ≤ p ∧ w.heap.size ≤ a) := Lib.hid fun w => Pl.new_ok 3 w (by omega) (by omega)
  have HS : Hid (∀ v w1 pp pa, Pl.Pm w1 pp pa 3 (Pl.freed 3) (Pl.turns 3) → Below v.heap.size v w1 → v.heap.size ≤ pp → v.heap.size ≤ pa → Calls Try.prog 11 #[.pointer (some ⟨pp, 0, none⟩), .int .i64 3, .int .i64 (B : Int)] w1 fun e w2 => ∃ x : Sh.Fx, e = .returned (.tuple #[.pointer (some ⟨x.s, 0, none⟩), .int .i64 0]) ∧ (x.pp = pp ∧ x.K = 3 ∧ x.B = B ∧ x.c = 3) ∧ Sh.Hx v x ⟨Pl.freed 3, Pl.turns 3, [], []⟩ w2) := Lib.hid fun v w1 pp pa r1 b1 l1 l2 => (Sh.shNew_ok r1 3 (by omega) (by omega) B (by omega) (by omega)).mono fun e w2 h => Sh.Hx.new b1 l1 l2 h
  clear hB hn n12
  go_enter Try.func7, Try.ntmps7
  go_wp2_with fail
  refine A.out.mono ?_
  rintro e w0 ⟨rfl, h0⟩
  have H0 := Lib.hid h0
  clear h0
  by_cases hll : 30 < ll
  · have d1 : decide ((30 : Int) < (ll : Int)) = true := by simp; omega
    go_wp2
    go_ret
    exact ⟨rfl, H0.out⟩
  have d1 : decide ((30 : Int) < (ll : Int)) = false := by simp; omega
  go_wp2_with fail
  refine (HN.out w0).mono ?_
  rintro e w1 ⟨pp, pa, rfl, r1, b1, l1, l2⟩
  have HS1 := Lib.hid (HS.out w w1 pp pa r1 (belowT H0.out b1) (Nat.le_trans H0.out.size l1) (Nat.le_trans H0.out.size l2))
  clear b1 r1 l1 l2 HS HN A
  go_wp2_with fail
  refine HS1.out.mono ?_
  rintro e w2 ⟨x, rfl, ⟨hpp, hK, hBB, hcc⟩, h2⟩
  have H2 := Lib.hid h2
  have FX := Lib.hid (show x.B = B ∧ x.c = 3 ∧ x.K = 3 from ⟨hBB, hcc, hK⟩)
  have EP := Lib.hid hpp
  have HB12 := Lib.hid (show 1 ≤ B ∧ B ≤ 4 from ⟨hB1, hB2⟩)
  have HNR : Hid (∀ u (P : Nat → Prop), Sh.Up u P → Calls Try.prog 12 #[.int .i64 3, .int .i64 3, .int .i64 (B : Int)] u (Sh.RsNew P 3 3 (B : Int) u)) := Lib.hid fun u P up => Sh.refShNew_ok 3 3 (B : Int) u up (by omega) (by omega)
  have START : Hid (∀ lab A w3 v, Sh.Sm w2 x A lab ⟨Pl.freed 3, Pl.turns 3, [], []⟩ → (∀ i, lab i ≠ none → w.heap.size ≤ i) → Below w.heap.size w w2 → Below w2.heap.size w2 w3 → Sh.Rs w3 (fun i => lab i = none) v ⟨Pl.freed 3, Pl.turns 3, [], []⟩ → (v.c = 3 ∧ v.B = (B : Int) ∧ v.K = 3) → Sh.Aw w x w3.heap.size lab ⟨Pl.freed 3, Pl.turns 3, [], []⟩ v (w3.alloc (.cells #[.slice v.oa v.K v.oc, .slice v.fa v.nf v.fc, .int .i64 v.c, .int .i64 v.B, .slice v.na v.N v.nc, .slice v.pa v.N v.pc, .slice v.qa v.M v.qc] 36))) := Lib.hid fun lab A w3 v sm lb bw b3 rs fv => by
    have b4 := below1 w3 (.cells #[.slice v.oa v.K v.oc, .slice v.fa v.nf v.fc, .int .i64 v.c, .int .i64 v.B, .slice v.na v.N v.nc, .slice v.pa v.N v.pc, .slice v.qa v.M v.qc] 36)
    have fx := FX.out
    refine ⟨⟨A, (sm.below b3).below b4⟩, (rs.swap (P' := Sh.Out lab w3.heap.size) fun k hk p => ⟨p, by omega⟩).on b4, Sh.B7.new w3 _ _ _ _ _ _ _ _, ?_, lb, Nat.le_trans bw.size b3.size, belowT (belowT bw b3) b4, ⟨by rw [fv.1, fx.2.1], by rw [fv.2.1, fx.1], by rw [fv.2.2, fx.2.2]⟩⟩
    cases e : lab w3.heap.size with
    | none => rfl
    | some z => have := sm.sr.fin w3.heap.size (by rw [e]; simp); have := b3.size; omega
  obtain ⟨A, lab, sm2, lb2, bw2⟩ := H2.out
  have up2 : Sh.Up w2 (fun i => lab i = none) := fun k hk => by
    cases e : lab k with
    | none => exact e
    | some z => have := sm2.sr.fin k (by rw [e]; simp); omega
  have HN2 := Lib.hid (HNR.out w2 _ up2)
  have HSM := Lib.hid (START.out lab A)
  have HS2 := Lib.hid (show Sh.Sm w2 x A lab ⟨Pl.freed 3, Pl.turns 3, [], []⟩ ∧ (∀ i, lab i ≠ none → w.heap.size ≤ i) ∧ Below w.heap.size w w2 from ⟨sm2, lb2, bw2⟩)
  have HK : Hid (x.K ≤ 1000) := Lib.hid (by have := FX.out; omega)
  clear h2 hK hBB hcc hpp HS1 hm hm2 wB wn H2 HNR START sm2 lb2 bw2 up2
  rw [EP.out.symm] at *
  go_wp2_with fail
  refine HN2.out.mono ?_
  rintro e w3 ⟨v0, rfl, r3, fv3, b3⟩
  have S4 := Lib.hid (HSM.out w3 v0 HS2.out.1 HS2.out.2.1 HS2.out.2.2 b3 r3 fv3)
  obtain ⟨X, eX⟩ : ∃ X, X = w3.heap.size := ⟨_, rfl⟩
  rw [← eX] at S4
  have EX := Lib.hid eX
  clear r3 fv3 b3 HN2 HSM HS2 eX
  go_wp2
  rw [← EX.out]
  go_loopw [12] (fun i wr => ∃ (k : Nat) (lab : Sh.Lab) (s : Sh.Shl) (v : Sh.Rv), k ≤ ll ∧ i = .int .i64 k ∧ Hid (Sh.Aw w x X lab s v wr)) (fun i _ => ll - (intOf i).toNat)
  case atStart => exact ⟨0, lab, _, v0, by omega, rfl, S4⟩
  case round =>
    obtain ⟨k, lab, s, v, hk, rfl, HX⟩ := hrel
    clear S4
    by_cases hlt : k < ll
    · have dk : decide ((k : Int) < (ll : Int)) = true := by simp; omega
      have U1 := Lib.hid (hl.below HX.out.below)
      obtain ⟨b0, o0, rfl, hb0, hc0⟩ := U1.out.head (by omega)
      obtain ⟨u, hu, hfit⟩ := U1.out.at_ hlt
      have kc : wr.cell? ⟨b0, o0 + k * 4, none⟩ = some (.int .u8 u.kind) ∧ wr.cell? ⟨b0, o0 + k * 4 + 1, none⟩ = some (.int .i64 u.page) ∧ wr.cell? ⟨b0, o0 + k * 4 + 2, none⟩ = some (.int .i64 u.at_) ∧ wr.cell? ⟨b0, o0 + k * 4 + 3, none⟩ = some (.int .i64 u.own) := ⟨hc0 k u hu 0 _ rfl, hc0 k u hu 1 _ rfl, hc0 k u hu 2 _ rfl, hc0 k u hu 3 _ rfl⟩
      obtain ⟨kind, page, at_, own⟩ := u
      simp only at kc
      have kc0 := kc.1
      have kc1 := kc.2.1
      have kc2 := kc.2.2.1
      have kc3 := kc.2.2.2
      have SW := Lib.hid HX.out.sw
      obtain ⟨A, sm⟩ := HX.out.sm
      have HC := Lib.hid (Sh.do13_any sm kind page at_ own hfit)
      have HB0 := Lib.hid hb0
      have HFit := Lib.hid hfit
      have KC := Lib.hid kc
      clear hc0 hu hb0 U1 hfit sm kc
      go_wp2_with fail
      refine HC.out.mono ?_
      rintro e w4 ⟨rfl, n4⟩
      obtain ⟨lab', h4⟩ := HX.out.act n4
      have H4 := Lib.hid h4
      have bw4 : Below w.heap.size wr w4 := by
        obtain ⟨_, _, _, _, bb⟩ := n4
        exact bb.below HX.out.below.size (fun i hi q => by have := HX.out.lb i q; omega)
      have KD := Lib.hid (fun (u : World) (hu : Below w4.heap.size w4 u) => Sh.Aacts h4 KC.out HB0.out bw4 u hu)
      have HD := Lib.hid (h4.do_ HK.out SW.out kind page at_ own HFit.out)
      clear n4 h4 bw4 kc0 kc1 kc2 kc3 HC HX SW KC
      generalize Sh.actS x.c x.B s ⟨kind, page, at_, own⟩ = r at *
      obtain ⟨t, y1, y2, y3⟩ := r
      dsimp only at *
      have bD : Below w4.heap.size w4 w4.drew := belowD (Below.refl _ _)
      have bZ : Below w4.heap.size w4 (w4.alloc (.cells #[.slice none 0 0, .slice none 0 0, .int .i64 0, .int .i64 0, .slice none 0 0, .slice none 0 0, .slice none 0 0] 36)).drew := belowD (below1 w4 _)
      have rsD := H4.out.rs.on bD
      have upD := H4.out.up.on bD.size
      have rsZ := (H4.out.rs.less (q := w4.heap.size) (Nat.le_refl _)).on bZ
      have upZ := H4.out.up.less (q := w4.heap.size) bZ.size (by simp)
      have ZK : Hid (∀ u, Below (w4.alloc (.cells #[.slice none 0 0, .slice none 0 0, .int .i64 0, .int .i64 0, .slice none 0 0, .slice none 0 0, .slice none 0 0] 36)).drew.heap.size (w4.alloc (.cells #[.slice none 0 0, .slice none 0 0, .int .i64 0, .int .i64 0, .slice none 0 0, .slice none 0 0, .slice none 0 0] 36)).drew u → Sh.B7 u w4.heap.size (.slice none 0 0) (.slice none 0 0) (.int .i64 0) (.int .i64 0) (.slice none 0 0) (.slice none 0 0) (.slice none 0 0)) := Lib.hid fun u hu => ((Sh.B7.new w4 (.slice none 0 0) (.slice none 0 0) (.int .i64 0) (.int .i64 0) (.slice none 0 0) (.slice none 0 0) (.slice none 0 0) 36).below (belowD (Below.refl _ _))).below hu
      have HDi := Lib.hid (HD.out _ _ rsD upD)
      have HDii := Lib.hid (HD.out _ _ rsZ upZ)
      have kW := KD.out _ (Below.refl _ _)
      have kD := KD.out _ bD
      have kZ := KD.out _ bZ
      have kA := KD.out _ (below1 w4 (.cells #[.slice none 0 0, .slice none 0 0, .int .i64 0, .int .i64 0, .slice none 0 0, .slice none 0 0, .slice none 0 0] 36))
      go_wp2_with fail
      go_region_held3 (fun u => (u.cell? ⟨X, 0, none⟩ = some (.slice v.oa v.K v.oc) ∧ u.cell? ⟨X, 1, none⟩ = some (.slice v.fa v.nf v.fc) ∧ u.cell? ⟨X, 2, none⟩ = some (.int .i64 v.c) ∧ u.cell? ⟨X, 3, none⟩ = some (.int .i64 v.B) ∧ u.cell? ⟨X, 4, none⟩ = some (.slice v.na v.N v.nc) ∧ u.cell? ⟨X, 5, none⟩ = some (.slice v.pa v.N v.pc) ∧ u.cell? ⟨X, 6, none⟩ = some (.slice v.qa v.M v.qc)) ∧ u.cell? ⟨b0, o0 + k * 4, none⟩ = some (.int .u8 kind) ∧ u.cell? ⟨b0, o0 + k * 4 + 1, none⟩ = some (.int .i64 page) ∧ u.cell? ⟨b0, o0 + k * 4 + 2, none⟩ = some (.int .i64 at_) ∧ u.cell? ⟨b0, o0 + k * 4 + 3, none⟩ = some (.int .i64 own))
        (first | with_reducible exact kD | with_reducible exact k5 | with_reducible exact kZ | with_reducible exact kW | with_reducible exact kA | with_reducible exact kL _ | with_reducible exact kS _ _ _ _ _ _ _)
        ((go_at_call 14; refine Calls.mono (HD.out _ _ (by first | with_reducible exact rsD | with_reducible exact rsZ) (by first | with_reducible exact upD | with_reducible exact upZ)) ?_; rintro e w5 ⟨v', rfl, r5, sm5, b5⟩; have q5 : Below w4.heap.size w4 w5 := (by first | with_reducible exact belowT bD b5 | with_reducible exact belowT bZ b5); have k5 := KD.out _ q5; have kL := fun (z : Obj) => KD.out _ (belowT q5 (below1 w5 z)); have kS := fun (t0 t1 t2 t3 t4 t5 t6 : Value) => KD.out _ (Sh.set7_below q5 (Nat.le_refl _) (Nat.le_refl _) t0 t1 t2 t3 t4 t5 t6); simp only [Sh.set7] at kS; (try (with_reducible have zk := ZK.out w5 b5; obtain ⟨e0, e1, e2, e3, e4, e5, e6, d0, d1', d2, d3, d4, d5, d6⟩ := zk))))
      · skip
        have B6 : Below w4.heap.size w4 (w5.alloc (.cells #[.slice v'.oa v'.K v'.oc, .slice v'.fa v'.nf v'.fc, .int .i64 v'.c, .int .i64 v'.B, .slice v'.na v'.N v'.nc, .slice v'.pa v'.N v'.pc, .slice v'.qa v'.M v'.qc] 36)) := belowT q5 (below1 w5 _)
        have R6 : Sh.Rs (w5.alloc (.cells #[.slice v'.oa v'.K v'.oc, .slice v'.fa v'.nf v'.fc, .int .i64 v'.c, .int .i64 v'.B, .slice v'.na v'.N v'.nc, .slice v'.pa v'.N v'.pc, .slice v'.qa v'.M v'.qc] 36)) (Sh.Out lab' X) v' t := r5.on (below1 w5 _)
        have HN7 := Lib.hid (H4.out.next B6 R6 sm5)
        have bx := Sh.B7.below H4.out.bs B6
        have ltX := Sh.B7.lt H4.out.bs
        have nx1 : ¬ X = w4.heap.size := by omega
        have nx2 : ¬ w4.heap.size = X := by omega
        have nx3 : ¬ X = w5.heap.size := by have := q5.size; omega
        have nx4 : ¬ w5.heap.size = X := by have := q5.size; omega
        unfold Sh.set7 at HN7
        obtain ⟨x0, x1, x2, x3, x4, x5, x6, f0, f1, f2, f3, f4, f5, f6⟩ := bx
        clear kD kW kZ kA k5 kL kS q5 bD bZ rsD rsZ upD upZ B6 R6 r5 sm5 b5 H4 KD HD HDi HDii ltX ZK
        go_wp2
        go_roundw
        case rel => exact ⟨k + 1, lab', t, v', by omega, by go_num, HN7⟩
        case measure => simp [intOf]; omega
      · skip
        have B6 : Below w4.heap.size w4 (Sh.set7 w5 w4.heap.size (.slice v'.oa v'.K v'.oc) (.slice v'.fa v'.nf v'.fc) (.int .i64 v'.c) (.int .i64 v'.B) (.slice v'.na v'.N v'.nc) (.slice v'.pa v'.N v'.pc) (.slice v'.qa v'.M v'.qc)) := Sh.set7_below q5 (Nat.le_refl _) (Nat.le_refl _) _ _ _ _ _ _ _
        have R6 : Sh.Rs (Sh.set7 w5 w4.heap.size (.slice v'.oa v'.K v'.oc) (.slice v'.fa v'.nf v'.fc) (.int .i64 v'.c) (.int .i64 v'.B) (.slice v'.na v'.N v'.nc) (.slice v'.pa v'.N v'.pc) (.slice v'.qa v'.M v'.qc)) (Sh.Out lab' X) v' t := r5.fin (Sh.set7_but _ _)
        have HN7 := Lib.hid (H4.out.next B6 R6 sm5)
        have bx := Sh.B7.below H4.out.bs B6
        have ltX := Sh.B7.lt H4.out.bs
        have nx1 : ¬ X = w4.heap.size := by omega
        have nx2 : ¬ w4.heap.size = X := by omega
        have nx3 : ¬ X = w5.heap.size := by have := q5.size; omega
        have nx4 : ¬ w5.heap.size = X := by have := q5.size; omega
        unfold Sh.set7 at HN7
        unfold Sh.set7 at bx
        obtain ⟨x0, x1, x2, x3, x4, x5, x6, f0, f1, f2, f3, f4, f5, f6⟩ := bx
        clear kD kW kZ kA k5 kL kS q5 bD bZ rsD rsZ upD upZ B6 R6 r5 sm5 b5 H4 KD HD HDi HDii ltX ZK
        go_wp2
        go_roundw
        case rel => exact ⟨k + 1, lab', t, v', by omega, by go_num, HN7⟩
        case measure => simp [intOf]; omega
    · have dk : decide ((k : Int) < (ll : Int)) = false := by simp; omega
      obtain ⟨A, sm⟩ := HX.out.sm
      have HT := Lib.hid (Sh.take_any sm 6 (by omega))
      by_cases hne : s.op = [] ∧ s.fl = []
      · rw [show Sh.takeOut x.c x.B s 6 = (s, 0, 0, 5) by unfold Sh.takeOut; rw [if_neg (by omega), if_pos hne]] at HT
        have HNe := Lib.hid hne
        clear sm hne
        go_wp2_with fail
        refine HT.out.mono ?_
        rintro e w4 ⟨rfl, n4⟩
        obtain ⟨lab', h4⟩ := HX.out.act n4
        have H4 := Lib.hid h4.idle
        have L1 := Lib.hid h4.free
        have L2 := Lib.hid h4.opens
        rw [HNe.out.2] at L1
        rw [HNe.out.1] at L2
        have L3 := Lib.hid (H4.out.same HK.out)
        obtain ⟨x0, x1, x2, x3, x4, x5, x6⟩ := h4.cells _ (Below.refl _ _)
        clear n4 h4 HT HX HNe
        dsimp only [List.length_nil] at L1 L2
        go_wp2_with fail
        refine L1.out.mono ?_
        rintro e v1 ⟨rfl, rfl⟩
        go_wp2_with fail
        refine L2.out.mono ?_
        rintro e v1 ⟨rfl, rfl⟩
        go_wp2_with fail
        refine L3.out.mono ?_
        rintro e w8 ⟨rfl, b8⟩
        have HE := Lib.hid (belowT H4.out.below b8)
        clear b8 H4
        go_wp2
        go_ret
        exact ⟨rfl, HE.out⟩
      · obtain ⟨m, i, s1, s2, hbk⟩ := Sh.backs (o := 6) sm.sw sm.uw (by have := HK.out; omega) sm.sr.b1 sm.sr.b2 (by omega) (by omega) hne
        have HBk := Lib.hid hbk
        have SW := Lib.hid sm.sw
        rw [hbk.take] at HT
        clear sm hbk hne
        go_wp2_with fail
        refine HT.out.mono ?_
        rintro e w4 ⟨rfl, n4⟩
        obtain ⟨lab1, h4⟩ := HX.out.act n4
        have H4 := Lib.hid h4
        have L1 := Lib.hid (h4.owner HBk.out.fn HBk.out.fi)
        rw [HBk.out.own] at L1
        have L2 := Lib.hid (h4.give HBk.out.fn i)
        rw [HBk.out.give] at L2
        clear n4 h4 HT HX
        go_wp2_with fail
        refine L1.out.mono ?_
        rintro e v1 ⟨rfl, rfl⟩
        go_wp2_with fail
        refine L2.out.mono ?_
        rintro e w5 ⟨rfl, n5⟩
        obtain ⟨lab2, h5⟩ := H4.out.act n5
        have TL := Lib.hid (fun (u : World) (hu : Below w5.heap.size w5 u) => h5.tells HK.out SW.out HBk.out u hu)
        have PK := Lib.hid (fun (u : World) (hu : Below w5.heap.size w5 u) => h5.cells u hu)
        have H5 := Lib.hid h5.below
        have bD : Below w5.heap.size w5 w5.drew := belowD (Below.refl _ _)
        have kW := PK.out _ (Below.refl _ _)
        have kD := PK.out _ bD
        generalize Sh.usedS s.ps = U at TL
        clear n5 h5 L1 L2 H4 SW HBk
        go_wp2_with fail
        go_region_held3 (fun u => u.cell? ⟨X, 0, none⟩ = some (.slice v.oa v.K v.oc) ∧ u.cell? ⟨X, 1, none⟩ = some (.slice v.fa v.nf v.fc) ∧ u.cell? ⟨X, 2, none⟩ = some (.int .i64 v.c) ∧ u.cell? ⟨X, 3, none⟩ = some (.int .i64 v.B) ∧ u.cell? ⟨X, 4, none⟩ = some (.slice v.na v.N v.nc) ∧ u.cell? ⟨X, 5, none⟩ = some (.slice v.pa v.N v.pc) ∧ u.cell? ⟨X, 6, none⟩ = some (.slice v.qa v.M v.qc))
          (first | with_reducible exact kD | with_reducible exact k6 | with_reducible exact kW)
          (first
            | (go_at_call 24; refine (TL.out _ ?_).1.mono ?_; exact bD; rintro e w7 ⟨rfl, rfl⟩)
            | (go_at_call 21; refine (TL.out _ ?_).2.1.mono ?_; exact bD; rintro e w7 ⟨rfl, rfl⟩)
            | (go_at_call 19; refine (TL.out _ ?_).2.2.1.mono ?_; exact bD; rintro e w7 ⟨rfl, rfl⟩)
            | (go_at_call 20; refine (TL.out _ ?_).2.2.2.1.mono ?_; (first | with_reducible exact bD | with_reducible exact b6'); rintro e w7 ⟨rfl, rfl⟩)
            | (go_at_call 27; refine (TL.out _ ?_).2.2.2.2.mono ?_; exact bD; rintro e w6 ⟨rfl, b6⟩; have b6' := belowT bD b6; have k6 := PK.out _ b6'))
        all_goals
          have HE := Lib.hid (belowT H5.out b6')
          clear kD kW k6 bD b6 b6' PK TL H5
          go_wp2
          go_ret
          exact ⟨by first | rfl | (simp; done), HE.out⟩

/-! ### The frame of the row -/
set_option maxRecDepth 100000 in
theorem lifted (os : Os) (started : os.Started) (H : Type) (enc : TypeId × Value → H) :
    ReturnsInHanded {} Try.checked os 7 .any (Rows.shelfBackSpec.pre6 enc Try.prog Try.f7 Rows.shelfBackRow.domain false) (Rows.shelfBackSpec.post enc Try.prog Try.f7 false true false false) := by
  refine returnsInHanded_of_change (C := Try.checked) own started (by kernel_rfl) Try.func7
    (ChangeSpec.witness6 (enc := enc) (C := Try.checked) false ⟨#[], #[.int .u8 0, .slice none 0 0], []⟩ 8 (by kernel_rfl) (by kernel_rfl) (by kernel_rfl) (by kernel_rfl)) ?_
  intro W base args ds gs before hval0 hW hcnd _
  have hval : ∀ (j : Nat) t v, Try.f7.params[j]? = some t → args[j]? = some v → Value.okWide Try.prog W .any base t v := hval0
  have hW' := hW
  obtain ⟨p, q, hA0, hV, rfl, hfz, hnd⟩ := hW
  have hA : DataW.TrodAll enc Try.prog W 0 (fun _ => true) true Try.f7.params.toList args.toList ds p := hA0
  rw [Try.params7] at hA hval
  obtain ⟨v0, vs0, d0, ds0, p0, q0, hargs, rfl, rfl, h0, r0⟩ := trodAll_cons hA
  obtain ⟨v1, vs1, d1, ds1, p1, q1, rfl, rfl, rfl, h1, r1⟩ := trodAll_cons r0
  obtain ⟨rfl, rfl, rfl⟩ := trodAll_nil r1
  obtain rfl : args = #[v0, v1] := by cases args; simp_all
  obtain ⟨rfl, rfl⟩ := trodVars_none hV
  obtain ⟨n, rfl, rfl, rfl, hn⟩ := open_int Try.underlying5 (hval 0 5 v0 rfl rfl) h0
  have k1 := h1
  have lt1 : ∀ x ∈ p1, x.block < W.heap.size := by obtain ⟨m, hm⟩ := k1; exact DataW.trod_lt m _ _ _ hm
  obtain ⟨al, ll, cl, rfl⟩ := okWide_slice Try.underlying22 (hval 1 22 v1 rfl rfl)
  obtain ⟨l, hcl, hl⟩ : ∃ xs, ll ≤ cl ∧ Acts W W.heap.size al ll xs := by
    obtain ⟨fuel, hf⟩ := h1
    obtain ⟨a, l, c, xs, e, hl, hi⟩ := acts_field (by simpa [Value.cells] using hf)
    injection e with e1 e2 e3
    subst e1 e2 e3
    exact ⟨xs, hl, hi⟩
  clear hA0 hval0
  refine (walk n al ll cl l W hn hl hcl).mono fun e W' ⟨he, bel⟩ => ?_
  subst he
  exact ⟨_, rfl, _, _, _, [], _, [], hW', trodAll_mk1 (shut_bool Try.underlying4 _), (trodAll_cons_mk (shut_int Try.underlying5 hn) (trodAll_cons_mk (Below.trod laidOut (by kernel_rfl) (of_decide_eq_true (by kernel_rfl)) k1 bel lt1) trodAll_mk0)), rfl, bel.frame _, fun h => by cases h⟩

theorem over : Rows.shelfBackRow.holds Try.pinned (OpenSpec.ofChange Rows.shelfBackSpec) :=
  OpenClaim.holds_of_wide 7 Try.f7 rfl rfl rfl rfl rfl rfl rfl ⟨rfl, rfl, rfl, rfl, rfl⟩ rfl rfl rfl rfl rfl (by kernel_rfl) Try.func7 (by kernel_rfl)
    (of_decide_eq_true (by kernel_rfl)) (by unfold Func.isWrapper; first | (rw [if_pos (by decide +kernel)]; kernel_rfl) | (rw [if_neg (by decide +kernel)]; exact ⟨rfl, rfl⟩))
    (fun os started H enc _ => lifted os started H enc)

theorem proved : Rows.ShelfBackSaid := over
#print axioms proved
end Go.Proofs.Ytijkigibcpgciaa.shelfBack
