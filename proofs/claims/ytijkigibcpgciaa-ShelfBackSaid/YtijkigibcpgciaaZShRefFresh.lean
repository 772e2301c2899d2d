import Derived.Test.YtijkigibcpgciaaZShRefStep
/-
  The document's own answers for package shelf: fresh (a page more).
-/
namespace Go.Proofs.Ytijkigibcpgciaa.Sh
open Go.ChangeShapes Go.WideShapes Go.ChangeAt Go.RowKit Go.Deep
set_option maxRecDepth 100000

section
variable {w w' : World} {P : Nat → Prop} {v : Rv} {s : Shl}
theorem Ip.less {q a n c l} (h : Ip w (Less P q) a n c l) (hb : But (· = q) w w') : Ip w' (Less P q) a n c l := h.but (hb.mono fun _ _ e p => p.2 e)
theorem Pp.less {q a n c rs} (h : Pp w (Less P q) a n c rs) (hb : But (· = q) w w') : Pp w' (Less P q) a n c rs := h.but (hb.mono fun _ _ e p => p.2 e)
theorem Rp_but {q oa oc fa fc n K O fl} (h : Pl.Rp w (fun k => Less P q k ∧ k < w.heap.size) oa oc fa fc n K O fl) (hb : But (fun i => ¬ Less P q i) w w') : Pl.Rp w' (fun k => Less P q k ∧ k < w'.heap.size) oa oc fa fc n K O fl := by
  have hp := h.but hb (fun k hk z => z hk.1)
  exact ⟨hp.own, hp.free, hp.oc_, hp.fc_, fun k hk => hk.2, fun q => by obtain ⟨b, o, e, p⟩ := hp.po q; exact ⟨b, o, e, p.1, hp.lt b p⟩, fun q => by obtain ⟨b, o, e, p⟩ := hp.pf q; exact ⟨b, o, e, p.1, hp.lt b p⟩⟩
theorem lessless {q r : Nat} : ∀ k, Less (Less P q) r k → Less (Less P r) q k := fun _ h => ⟨⟨h.1.1, h.2⟩, h.1.2⟩
set_option maxHeartbeats 1000000 in
theorem refFresh_no (h : Rs w P v s) (hw : Pl.Pw v.K s.O s.fl) (hK : v.K ≤ 1024) (c0 : 0 ≤ v.c) (c1 : v.c ≤ 9223372036854775807) (hf : s.fl = []) :
    Calls Try.prog 57 #[(.agg #[.slice v.oa v.K v.oc, .slice v.fa v.nf v.fc, .int .i64 v.c, .int .i64 v.B, .slice v.na v.N v.nc, .slice v.pa v.N v.pc, .slice v.qa v.M v.qc])] w (RsEnds P v s (fun u => .tuple #[u, .int .i64 5]) w) := by
  have T0 := Two.new w v
  have hA := h.on T0.below
  have HTk := Lib.hid (Pl.refTake_any hA.pool hw hK v.c ⟨by omega, c1⟩)
  rw [show Pl.takeOut s.O s.fl v.c = (s.O, [], 0, 5) by unfold Pl.takeOut; rw [if_neg (by omega), hf]] at HTk
  have HT := Lib.hid T0
  have HR := Lib.hid h
  clear h T0 hA hw c0 c1 hf
  go_enter Try.func57, Try.ntmps57
  go_wp2_with fail
  refine HTk.out.mono ?_
  rintro e w2 ⟨oa, oc, fa, fc, nf, Q, rfl, _, b2, _⟩
  have T2 := (HT.out.on b2).on (below1 w2 (.cells #[.slice oa v.K oc, .slice fa nf fc] 33))
  have lt2 := (HT.out.on b2).r.lt
  have n1 : ¬ w.heap.size + 1 = w2.heap.size := by omega
  have n2 : ¬ w2.heap.size = w.heap.size + 1 := by omega
  have FIN : Hid (Below w.heap.size w (set7 (w2.alloc (.cells #[.slice oa v.K oc, .slice fa nf fc] 33)) (w.heap.size + 1) (.slice v.oa v.K v.oc) (.slice v.fa v.nf v.fc) (.int .i64 v.c) (.int .i64 v.B) (.slice v.na v.N v.nc) (.slice v.pa v.N v.pc) (.slice v.qa v.M v.qc))) := Lib.hid (set7_below T2.below (Nat.le_refl _) (by omega) _ _ _ _ _ _ _)
  unfold set7 at FIN
  have T2a := T2.a
  have T2r := T2.r
  unfold Bs at T2a
  obtain ⟨x0, x1, x2, x3, x4, x5, x6, -, -, -, -, -, -, -⟩ := T2a
  obtain ⟨z0, z1, z2, z3, z4, z5, z6, g0, g1, g2, g3, g4, g5, g6⟩ := T2r
  clear b2 T2 HT HTk lt2
  go_wp2
  refine bodyPost_ret (v := .tuple #[(.agg #[.slice v.oa v.K v.oc, .slice v.fa v.nf v.fc, .int .i64 v.c, .int .i64 v.B, .slice v.na v.N v.nc, .slice v.pa v.N v.pc, .slice v.qa v.M v.qc]), .int .i64 5]) (by simp [results, Try.results57, go_sem, z0, z1, z2, z3, z4, z5, z6]) rfl ?_
  exact ⟨v, rfl, HR.out.on FIN.out, ⟨rfl, rfl, rfl⟩, FIN.out⟩
set_option maxHeartbeats 4000000 in
theorem refFresh_ok (h : Rs w P v s) (up : Up w P) (hw : Pl.Pw v.K s.O s.fl) (hK : v.K ≤ 1024) (hN : v.N ≤ 1024) (hM : v.M ≤ 1024) (c0 : 0 ≤ v.c) (c1 : v.c ≤ 9223372036854775807) {B : Nat} (hB : v.B = (B : Int)) (hB1 : 1 ≤ B) (hB2 : B ≤ 512) {k : Nat} {r : List Int} (hf : s.fl = (k : Int) :: r) :
    Calls Try.prog 57 #[(.agg #[.slice v.oa v.K v.oc, .slice v.fa v.nf v.fc, .int .i64 v.c, .int .i64 v.B, .slice v.na v.N v.nc, .slice v.pa v.N v.pc, .slice v.qa v.M v.qc])] w (RsEnds P v ⟨s.O.set k v.c, r, s.ps ++ [((k : Int), List.replicate B (-1))], (k : Int) :: s.op⟩ (fun u => .tuple #[u, .int .i64 0]) w) := by
  have T0 := Two.new w v
  have szA : ((w.alloc (.cells #[.slice v.oa v.K v.oc, .slice v.fa v.nf v.fc, .int .i64 v.c, .int .i64 v.B, .slice v.na v.N v.nc, .slice v.pa v.N v.pc, .slice v.qa v.M v.qc] 36)).alloc (.cells #[.slice none 0 0, .slice none 0 0, .int .i64 0, .int .i64 0, .slice none 0 0, .slice none 0 0, .slice none 0 0] 36)).heap.size = w.heap.size + 2 := by simp
  have hA := ((h.less (q := w.heap.size) (Nat.le_refl _)).less (q := w.heap.size + 1) (by omega)).on T0.below
  have upA : Up ((w.alloc (.cells #[.slice v.oa v.K v.oc, .slice v.fa v.nf v.fc, .int .i64 v.c, .int .i64 v.B, .slice v.na v.N v.nc, .slice v.pa v.N v.pc, .slice v.qa v.M v.qc] 36)).alloc (.cells #[.slice none 0 0, .slice none 0 0, .int .i64 0, .int .i64 0, .slice none 0 0, .slice none 0 0, .slice none 0 0] 36)) (Less (Less P w.heap.size) (w.heap.size + 1)) := fun i hi => ⟨⟨up i (by omega), by omega⟩, by omega⟩
  have HTk := Lib.hid (Pl.refTake_any hA.pool hw hK v.c ⟨by omega, c1⟩)
  have hkK : k < v.K := by obtain ⟨k', e, hk⟩ := hw.lt (x := (k : Int)) (by rw [hf]; simp); omega
  rw [show Pl.takeOut s.O s.fl v.c = (s.O.set k v.c, r, (k : Int), 0) by unfold Pl.takeOut; rw [if_neg (by omega), hf]; rfl] at HTk
  have HNw : Hid (∀ w4, Calls Try.prog 16 #[.int .i64 v.B] w4 fun e w' => ∃ g c, e = .returned (.tuple #[.slice (some ⟨g, 0, none⟩) B c, .int .i64 0]) ∧ Ints w' w'.heap.size (some ⟨g, 0, none⟩) B (List.replicate B (-1)) ∧ w4.heap.size ≤ g ∧ Below w4.heap.size w4 w') := Lib.hid fun w4 => by rw [hB]; exact Pg.refPageNew_ok B hB1 hB2 w4
  have HT := Lib.hid T0
  have HA := Lib.hid hA
  have UP := Lib.hid upA
  have NM := Lib.hid (show v.N ≤ 100000 ∧ v.M ≤ 100000 ∧ 1 ≤ B from ⟨by omega, by omega, hB1⟩)
  have KF : Hid (Pl.Fit (k : Int)) := Lib.hid ⟨by omega, by omega⟩
  have SZ := Lib.hid szA
  clear h T0 hA hw c0 c1 hf hB hB1 hB2 up upA hkK szA
  go_enter Try.func57, Try.ntmps57
  go_wp2_with fail
  refine HTk.out.mono ?_
  rintro e w2 ⟨oa, oc, fa, fc, nf, Q, rfl, rp2, b2, hQ⟩
  -- the pool's variable, and the two stores
  have rp2' := pool_on rp2 UP.out hQ
  have H2 := HA.out.on b2
  have T2 := HT.out.on b2
  have s2 : ((w.alloc (.cells #[.slice v.oa v.K v.oc, .slice v.fa v.nf v.fc, .int .i64 v.c, .int .i64 v.B, .slice v.na v.N v.nc, .slice v.pa v.N v.pc, .slice v.qa v.M v.qc] 36)).alloc (.cells #[.slice none 0 0, .slice none 0 0, .int .i64 0, .int .i64 0, .slice none 0 0, .slice none 0 0, .slice none 0 0] 36)).heap.size ≤ w2.heap.size := b2.size
  have s2' : w.heap.size + 2 ≤ w2.heap.size := by have := SZ.out; omega
  have U2 := UP.out.on s2
  have bv := below1 w2 (.cells #[.slice oa v.K oc, .slice fa nf fc] 33)
  obtain ⟨w3, e3⟩ : ∃ w3, w3 = w2.alloc (.cells #[.slice oa v.K oc, .slice fa nf fc] 33) := ⟨_, rfl⟩
  rw [← e3] at bv
  have T3 := T2.on bv
  have s3 : w2.heap.size ≤ w3.heap.size := bv.size
  have b4 : But (· = w.heap.size) w3 ((w3.setCell ⟨w.heap.size, 0, none⟩ (.slice oa v.K oc)).setCell ⟨w.heap.size, 1, none⟩ (.slice fa nf fc)) := ((But.refl (· = w.heap.size) w3).setCell (p := ⟨w.heap.size, 0, none⟩) (fun _ => rfl) _).setCell (p := ⟨w.heap.size, 1, none⟩) (fun _ => rfl) _
  have A4 := B7.set01 T3.a (.slice oa v.K oc) (.slice fa nf fc)
  obtain ⟨w4, e4⟩ : ∃ w4, w4 = (w3.setCell ⟨w.heap.size, 0, none⟩ (.slice oa v.K oc)).setCell ⟨w.heap.size, 1, none⟩ (.slice fa nf fc) := ⟨_, rfl⟩
  rw [← e4] at b4 A4
  have R4 := T3.r.but b4 (fun e => by omega)
  have nq : ∀ {x y : World}, But (· = w.heap.size) x y → But (fun i => ¬ Less (Less P w.heap.size) (w.heap.size + 1) i) x y := fun hb => hb.mono fun _ _ e p => p.1.2 e
  have P4 := Rp_but (Rp_but rp2' (Below.but bv _)) (nq b4)
  have N4 := (H2.nums.on bv).but (nq b4)
  obtain ⟨rs, pp2, hrs⟩ := H2.pages
  have G4 := (pp2.on bv).but (nq b4)
  have O4 := (H2.op.on bv).but (nq b4)
  have s4 : w3.heap.size ≤ w4.heap.size := b4.size
  have BW4 : Below w.heap.size w w4 := T3.below.trans (b4.one (Nat.le_trans T3.below.size (Nat.le_refl _)) (Nat.le_refl _))
  have U4 := U2.on (Nat.le_trans s3 s4)
  have x3 := T3.a.c0
  have E34 : Hid (w4 = ((w2.alloc (.cells #[.slice oa v.K oc, .slice fa nf fc] 33)).setCell ⟨w.heap.size, 0, none⟩ (.slice oa v.K oc)).setCell ⟨w.heap.size, 1, none⟩ (.slice fa nf fc)) := Lib.hid (by rw [e4, e3])
  have HX2 : Hid (Two w (w2.alloc (.cells #[.slice oa v.K oc, .slice fa nf fc] 33)) v w.heap.size (w.heap.size + 1)) := Lib.hid (by rw [← e3]; exact T3)
  have HP4 := Lib.hid P4
  have HN4 := Lib.hid N4
  have HG4 := Lib.hid G4
  have HO4 := Lib.hid O4
  have HA4 := Lib.hid A4
  have HR4 := Lib.hid R4
  have HU4 := Lib.hid U4
  have HB4 := Lib.hid BW4
  have HRS := Lib.hid hrs
  have HS4 : Hid (w.heap.size + 2 ≤ w4.heap.size) := Lib.hid (by omega)
  obtain ⟨c0, c1, c2, c3, -, -, -, f0, f1, -, -, -, -, -⟩ := HX2.out.a
  have n1 : ¬ w2.heap.size = w.heap.size := by omega
  have n2 : ¬ w.heap.size = w2.heap.size := by omega
  clear rp2 rp2' H2 T2 s2 s2' U2 bv T3 s3 b4 A4 R4 nq P4 N4 pp2 hrs G4 O4 s4 BW4 U4 x3 e3 e4 b2 hQ HTk HT HA UP SZ HX2
  go_wp2_with fail
  rw [← E34.out]
  refine (HNw.out w4).mono ?_
  rintro e w5 ⟨gp, cp, rfl, ip, lp, b5⟩
  have U5 := HU4.out.on b5.size
  have s5 := b5.size
  have hs4 := HS4.out
  have A5 := HA4.out.below b5
  have R5 := HR4.out.below b5
  have N5 := HN4.out.on b5
  have G5 := HG4.out.on b5
  have O5 := HO4.out.on b5
  have P5 := Rp_but HP4.out (Below.but b5 _)
  obtain ⟨nN, nM, nB⟩ := NM.out
  have RW5 : Row w5 (Less (Less P w.heap.size) (w.heap.size + 1)) (.slice (some ⟨gp, 0, none⟩) B cp) (List.replicate B (-1)) := ⟨gp, cp, by rw [List.length_replicate], by rw [List.length_replicate]; exact ip, HU4.out gp lp, by rw [List.length_replicate]; exact nB⟩
  have nq : ∀ {x y : World}, But (· = w.heap.size) x y → But (fun i => ¬ Less (Less P w.heap.size) (w.heap.size + 1) i) x y := fun hb => hb.mono fun _ _ e p => p.1.2 e
  obtain ⟨g6, c6, w6, g7, c7, w7, r6, r7, N7, b7, l7, b6⟩ := numStep N5 nN U5 (k : Int) KF.out
  have A6 := A5.below b6
  have A7 := A5.below b7
  have b8 := cell_but w7 w.heap.size 4 (.slice (some ⟨g7, 0, none⟩) (v.N + 1) c7)
  have A8 := A7.set4 (.slice (some ⟨g7, 0, none⟩) (v.N + 1) c7)
  have sz8 : w7.heap.size = (w7.setCell ⟨w.heap.size, 4, none⟩ (.slice (some ⟨g7, 0, none⟩) (v.N + 1) c7)).heap.size := by simp
  obtain ⟨w8, e8⟩ : ∃ w8, w8 = w7.setCell ⟨w.heap.size, 4, none⟩ (.slice (some ⟨g7, 0, none⟩) (v.N + 1) c7) := ⟨_, rfl⟩
  rw [← e8] at b8 A8 sz8
  have R8 := (R5.below b7).but b8 (fun e => by omega)
  have U8 := U5.on (Nat.le_trans b7.size b8.size)
  have N8 := N7.but (nq b8)
  obtain ⟨g9, c9, w9, g10, c10, w10, r9, r10, G10, b10, l10, b9⟩ := rowStep ((G5.on b7).but (nq b8)) nN U8 ((RW5.but (Below.but b7 _)).but (nq b8)) w7.heap.size sz8
  have A9 := A8.below b9
  have A10 := A8.below b10
  have b11 := cell_but w10 w.heap.size 5 (.slice (some ⟨g10, 0, none⟩) (v.N + 1) c10)
  have A11 := A10.set5 (.slice (some ⟨g10, 0, none⟩) (v.N + 1) c10)
  have sz11 : w10.heap.size = (w10.setCell ⟨w.heap.size, 5, none⟩ (.slice (some ⟨g10, 0, none⟩) (v.N + 1) c10)).heap.size := by simp
  obtain ⟨w11, e11⟩ : ∃ w11, w11 = w10.setCell ⟨w.heap.size, 5, none⟩ (.slice (some ⟨g10, 0, none⟩) (v.N + 1) c10) := ⟨_, rfl⟩
  rw [← e11] at b11 A11 sz11
  have R11 := (R8.below b10).but b11 (fun e => by omega)
  have U11 := U8.on (Nat.le_trans b10.size b11.size)
  obtain ⟨g12, c12, w12, r12, O12, b12, l12⟩ := aheadStep ((((O5.on b7).but (nq b8)).on b10).but (nq b11)) nM U11 (k : Int) KF.out w10.heap.size sz11
  have A12 := A11.below b12
  have R12' := R11.below b12
  have b13 := cell_but w12 w.heap.size 6 (.slice (some ⟨g12, 0, none⟩) (1 + v.M) c12)
  have A13 := A12.set6 (.slice (some ⟨g12, 0, none⟩) (1 + v.M) c12)
  obtain ⟨w13, e13⟩ : ∃ w13, w13 = w12.setCell ⟨w.heap.size, 6, none⟩ (.slice (some ⟨g12, 0, none⟩) (1 + v.M) c12) := ⟨_, rfl⟩
  rw [← e13] at b13 A13
  have R13 := R12'.but b13 (fun e => by omega)
  -- the shelf
  obtain ⟨v', ev⟩ : ∃ v' : Rv, v' = ⟨oa, v.K, oc, fa, nf, fc, v.c, v.B, some ⟨g7, 0, none⟩, v.N + 1, c7, some ⟨g10, 0, none⟩, c10, some ⟨g12, 0, none⟩, 1 + v.M, c12⟩ := ⟨_, rfl⟩
  have k8 := nq b8
  have k11 := nq b11
  have k13 := nq b13
  have H13 : Rs w13 (Less (Less P w.heap.size) (w.heap.size + 1)) v' ⟨s.O.set k v.c, r, s.ps ++ [((k : Int), List.replicate B (-1))], (k : Int) :: s.op⟩ := by
    rw [ev]
    refine ⟨?_, ?_, ⟨_, (((G10.but k11).on b12).but k13), ?_⟩, O12.but k13⟩
    · exact Rp_but (Rp_but (Rp_but (Rp_but (Rp_but (Rp_but P5 (Below.but b7 _)) k8) (Below.but b10 _)) k11) (Below.but b12 _)) k13
    · have := (((N8.on b10).but k11).on b12).but k13
      show Ip w13 _ _ _ _ (nums (s.ps ++ [((k : Int), List.replicate B (-1))]))
      unfold nums
      rw [List.map_append]
      exact this
    · rw [List.map_append, List.map_append, HRS.out]
      rfl
  have BW13 : Below w.heap.size w w13 := by
    have q5 : Below w.heap.size w w5 := belowT HB4.out b5
    have q7 := belowT q5 b7
    have q8 := q7.trans (b8.one (Nat.le_trans q7.size (Nat.le_refl _)) (Nat.le_refl _))
    have q10 := belowT q8 b10
    have q11 := q10.trans (b11.one q10.size (Nat.le_refl _))
    have q12 := belowT q11 b12
    exact q12.trans (b13.one q12.size (Nat.le_refl _))
  have b14 := set7_but (t0 := .slice v'.oa v'.K v'.oc) (t1 := .slice v'.fa v'.nf v'.fc) (t2 := .int .i64 v'.c) (t3 := .int .i64 v'.B) (t4 := .slice v'.na v'.N v'.nc) (t5 := .slice v'.pa v'.N v'.pc) (t6 := .slice v'.qa v'.M v'.qc) w13 (w.heap.size + 1)
  have FIN := Lib.hid (show Rs (set7 w13 (w.heap.size + 1) (.slice v'.oa v'.K v'.oc) (.slice v'.fa v'.nf v'.fc) (.int .i64 v'.c) (.int .i64 v'.B) (.slice v'.na v'.N v'.nc) (.slice v'.pa v'.N v'.pc) (.slice v'.qa v'.M v'.qc)) P v' ⟨s.O.set k v.c, r, s.ps ++ [((k : Int), List.replicate B (-1))], (k : Int) :: s.op⟩ ∧ Same v v' ∧ Below w.heap.size w (set7 w13 (w.heap.size + 1) (.slice v'.oa v'.K v'.oc) (.slice v'.fa v'.nf v'.fc) (.int .i64 v'.c) (.int .i64 v'.B) (.slice v'.na v'.N v'.nc) (.slice v'.pa v'.N v'.pc) (.slice v'.qa v'.M v'.qc)) from ⟨(H13.fin b14).swap (fun _ _ p => p.1), by rw [ev]; exact ⟨rfl, rfl, rfl⟩, set7_below BW13 (Nat.le_refl _) (by omega) _ _ _ _ _ _ _⟩)
  unfold set7 at FIN
  have es : Hid (.agg #[.slice oa v.K oc, .slice fa nf fc, .int .i64 v.c, .int .i64 v.B, .slice (some ⟨g7, 0, none⟩) (v.N + 1) c7, .slice (some ⟨g10, 0, none⟩) (v.N + 1) c10, .slice (some ⟨g12, 0, none⟩) (1 + v.M) c12] = ((.agg #[.slice v'.oa v'.K v'.oc, .slice v'.fa v'.nf v'.fc, .int .i64 v'.c, .int .i64 v'.B, .slice v'.na v'.N v'.nc, .slice v'.pa v'.N v'.pc, .slice v'.qa v'.M v'.qc]) : Value)) := Lib.hid (by rw [ev])
  rw [ev, e13] at FIN
  rw [e8] at r9
  rw [e11] at r12
  have r6' := Lib.hid r6
  have r7' := Lib.hid r7
  have r9' := Lib.hid r9
  have r10' := Lib.hid r10
  have r12' := Lib.hid r12
  have a4 := (A5.below (below1 w5 (.cells #[] 3))).c4
  have a85 := (A8.below (below1 w8 (.cells #[] 31))).c5
  rw [e8] at a85
  have a116 := (A11.below (below1 w11 (.cells #[.int .i64 (k : Int)] 3))).c6
  rw [e11] at a116
  have a74 := A7.c4
  have a75 := A7.c5
  have f74 := A7.f4
  have a105 := A10.c5
  have a106 := A10.c6
  have f105 := A10.f5
  obtain ⟨y0, y1, y2, y3, y4, y5, y6, -, -, -, -, -, -, h6⟩ := A12
  obtain ⟨z0, z1, z2, z3, z4, z5, z6, j0, j1, j2, j3, j4, j5, j6⟩ := R12'
  have EV := Lib.hid ev
  clear N5 G5 O5 P5 U5 A5 R5 RW5 nq r6 N7 b7 l7 b6 A6 A7 b8 A8 sz8 e8 R8 U8 N8 r7 r9 r10 G10 b10 l10 b9 A9 A10 b11 A11 sz11 e11 R11 U11 r12 O12 b12 l12 b13 A13 e13 R13 k8 k11 k13 H13 BW13 b14 ip lp b5 HP4 HN4 HG4 HO4 HA4 HR4 HU4 HB4 HRS HS4 s5 c0 c1 c2 c3 f0 f1 E34 HNw NM nN nM nB KF ev
  go_wp2_with (first
    | (at_builtin; refine wpList_append_run rfl _ _ rfl rfl rfl rfl r6'.out ?_)
    | (at_builtin; refine wpList_append_run rfl _ _ rfl rfl rfl rfl r7'.out ?_)
    | (at_builtin; refine wpList_append_run rfl _ _ rfl rfl rfl rfl r9'.out ?_)
    | (at_builtin; refine wpList_append_run rfl _ _ rfl rfl rfl rfl r10'.out ?_)
    | (at_builtin; refine wpList_append_run rfl _ _ rfl rfl rfl rfl r12'.out ?_))
  refine bodyPost_ret (v := .tuple #[.agg #[.slice oa v.K oc, .slice fa nf fc, .int .i64 v.c, .int .i64 v.B, .slice (some ⟨g7, 0, none⟩) (v.N + 1) c7, .slice (some ⟨g10, 0, none⟩) (v.N + 1) c10, .slice (some ⟨g12, 0, none⟩) (1 + v.M) c12], .int .i64 0]) (by simp [results, Try.results57, go_sem, z0, z1, z2, z3, z4, z5, z6]) rfl ?_
  exact ⟨v', by rw [← es.out], by rw [EV.out]; exact FIN.out⟩
end

end Go.Proofs.Ytijkigibcpgciaa.Sh
