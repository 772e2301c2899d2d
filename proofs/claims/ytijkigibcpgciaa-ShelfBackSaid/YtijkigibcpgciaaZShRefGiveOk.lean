import Derived.Test.YtijkigibcpgciaaZShRefGive
/-
  The document's own answers for package shelf: Give of a block that isn't free.
-/
namespace Go.Proofs.Ytijkigibcpgciaa.Sh
open Go.ChangeShapes Go.WideShapes Go.ChangeAt Go.RowKit Go.Deep
set_option maxRecDepth 100000
theorem map_eraseIdx {α β : Type} (f : α → β) : ∀ (l : List α) (i : Nat), (l.eraseIdx i).map f = (l.map f).eraseIdx i
  | [], _ => rfl
  | _ :: _, 0 => rfl
  | x :: r, i + 1 => by simp [map_eraseIdx f r i]
theorem nums_eraseIdx (ps : Ps) (i : Nat) : nums (ps.eraseIdx i) = (nums ps).eraseIdx i := map_eraseIdx _ ps i
section
variable {w : World} {P : Nat → Prop} {v : Rv} {s : Shl}
set_option maxHeartbeats 4000000 in
theorem refShGive_ok (h : Rs w P v s) (up : Up w P) (hnd : (nums s.ps).Nodup) (hN : v.N ≤ 1024) (hM : v.M ≤ 1024) (hK : v.K ≤ 1024) (hw : Pl.Pw v.K s.O s.fl) {kk : Nat} (hkk : kk < v.K) {co : Int} (hco : s.O[kk]? = some co) (hcn : co ≠ -1) (k : Int) {n : Int} (hnk : n = (kk : Int)) {i : Nat} {X : List Int} (hi : s.ps[i]? = some (n, X)) (hX : X.length ≤ 512) (hno : (opened X n s.op).Nodup) (he : Pg.giveE X k = 0) :
    Calls Try.prog 34 #[(.agg #[.slice v.oa v.K v.oc, .slice v.fa v.nf v.fc, .int .i64 v.c, .int .i64 v.B, .slice v.na v.N v.nc, .slice v.pa v.N v.pc, .slice v.qa v.M v.qc]), .int .i64 n, .int .i64 k] w (RsEnds P v (if Pg.usedN (Pg.giveX X k) = 0 then ⟨s.O.set kk (-1), n :: s.fl, delP s.ps n, (opened X n s.op).erase n⟩ else ⟨s.O, s.fl, setP s.ps n (Pg.giveX X k), opened X n s.op⟩) (fun u => .tuple #[u, .int .i64 0]) w) := by
  have T0 := Two.new w v
  have szA : ((w.alloc (.cells #[.slice v.oa v.K v.oc, .slice v.fa v.nf v.fc, .int .i64 v.c, .int .i64 v.B, .slice v.na v.N v.nc, .slice v.pa v.N v.pc, .slice v.qa v.M v.qc] 36)).alloc (.cells #[.slice none 0 0, .slice none 0 0, .int .i64 0, .int .i64 0, .slice none 0 0, .slice none 0 0, .slice none 0 0] 36)).heap.size = w.heap.size + 2 := by simp
  have hA := (h.less (q := w.heap.size + 1) (by omega)).on T0.below
  have upA := up.less (q := w.heap.size + 1) T0.below.size (by omega)
  have hin : (nums s.ps)[i]? = some n := by unfold nums; rw [List.getElem?_map, hi]; rfl
  have hiN : i < v.N := by rw [h.numN]; exact (List.getElem?_eq_some_iff.1 hi).1
  have HF := Lib.hid (refFind_at v hA.nums.ints hin hnd)
  have HT := Lib.hid T0
  have HA := Lib.hid hA
  have UP := Lib.hid upA
  have UP0 := Lib.hid up
  have HI := Lib.hid hi
  have ND := Lib.hid hnd
  have HR0 := Lib.hid h
  have HCC : Hid (∀ (w2 : World) (g cap : Nat), Ints w2 w2.heap.size (some ⟨g, 0, none⟩) X.length X → Calls Try.prog 63 #[.slice (some ⟨g, 0, none⟩) X.length cap, .int .i64 k] w2 (Pg.RefP X.length g (Pg.giveX X k) (Pg.giveE X k) w2)) := Lib.hid fun w2 g cap hI => Pg.refGive_any (c := cap) hI hX k
  have HHo : Hid (∀ (w2 : World) (g cap : Nat), Ints w2 w2.heap.size (some ⟨g, 0, none⟩) X.length X → Calls Try.prog 61 #[.slice (some ⟨g, 0, none⟩) X.length cap] w2 (R1 (Pg.holeOf X) w2)) := Lib.hid fun w2 g cap hI => Pg.refHole_any (c := cap) hI
  have OL := Lib.hid (Pg.give_len (X := X) k)
  have HSZ := Lib.hid szA
  rw [he] at HCC
  have LX0 := Lib.hid hX
  have PW := Lib.hid hw
  have GO : Hid (Pl.giveOut s.O s.fl n = (s.O.set kk (-1), n :: s.fl, 0)) := Lib.hid (by
    unfold Pl.giveOut
    rw [hw.len, hnk, Pl.inB_of hkk, if_pos rfl, Int.toNat_natCast, if_neg (fun q => hcn (by rw [hco] at q; exact Option.some.inj q))])
  have NO1 := Lib.hid hno
  have NF : Hid (Pl.Fit n) := Lib.hid (by rw [hnk]; exact ⟨by omega, by omega⟩)
  obtain ⟨t', et'⟩ : ∃ t', t' = (if Pg.usedN (Pg.giveX X k) = 0 then (⟨s.O.set kk (-1), n :: s.fl, delP s.ps n, (opened X n s.op).erase n⟩ : Shl) else ⟨s.O, s.fl, setP s.ps n (Pg.giveX X k), opened X n s.op⟩) := ⟨_, rfl⟩
  rw [← et']
  have EF := et'.symm
  generalize Pg.giveX X k = Y at HCC OL EF
  have EO : Hid (opened X n s.op = if Pg.holeOf X = -1 then n :: s.op else s.op) := Lib.hid rfl
  clear h hi T0 hA upA up hin hnd szA he et' hno hw hkk hco hcn hnk
  have LX : Hid (X.length ≤ 512) := LX0
  clear LX0 hX
  by_cases hf : Pg.holeOf X = -1
  · rw [if_pos hf] at EO
    have df : decide (Pg.holeOf X < 0) = true := by rw [hf]; rfl
    clear hf
    generalize hho : Pg.holeOf X = ho at HHo df
    clear hho
    go_enter Try.func34, Try.ntmps34
    go_wp2_with fail
    refine HF.out.mono ?_
    rintro e w2 ⟨rfl, b2⟩
    have T2 := Lib.hid (HT.out.on b2)
    have H2 := Lib.hid (HA.out.on b2)
    have U2 := Lib.hid (UP.out.on b2.size)
    have S2 : Hid (w.heap.size + 2 ≤ w2.heap.size) := Lib.hid (by rw [← HSZ.out]; exact b2.size)
    obtain ⟨b, oo, g, cap, ea, hc, hI, pg, h1, hbl⟩ := H2.out.at_ HI.out
    have x5 := T2.out.a.c5
    rw [ea] at x5
    have HC := Lib.hid (HCC.out w2 g cap hI)
    have HH := Lib.hid (HHo.out w2 g cap hI)
    have d1 : decide ((i : Int) < 0) = false := by simp
    have PG := Lib.hid pg
    have L1 := Lib.hid h1
    clear b2 HT HA UP HF hI hbl pg h1 ea HCC HHo HSZ
    generalize hlX : X.length = lx at hc HC HH L1 OL LX
    clear hlX
    go_wp2_with fail
    refine HH.out.mono ?_
    rintro e wz ⟨rfl, rfl⟩
    go_wp2_with fail
    refine HC.out.mono ?_
    rintro e w3 ⟨g3, c3, rfl, s3, q3, b3⟩
    have T3' := Lib.hid (T2.out.on b3)
    have H3 := Lib.hid (H2.out.on b3)
    have U3 := Lib.hid (U2.out.on b3.size)
    have R3 : Hid (Row w3 (Less P (w.heap.size + 1)) (.slice (some ⟨g3, 0, none⟩) lx c3) Y) := Lib.hid ⟨g3, c3, by rw [OL.out], by rw [OL.out]; exact s3, by
      rcases q3 with q | q
      · rw [q]; exact PG.out
      · exact U2.out g3 q, by rw [OL.out]; exact L1.out⟩
    obtain ⟨rs, p3, hrs⟩ := H3.out.pages
    have HW := Lib.hid (refWith_any v p3 (by omega) U3.out i hiN R3.out)
    have HRS := Lib.hid hrs
    have IY := Lib.hid (show Ints w3 w3.heap.size (some ⟨g3, 0, none⟩) lx Y from s3)
    have G3 : Hid (Less P (w.heap.size + 1) g3) := Lib.hid (by
      rcases q3 with q | q
      · rw [q]; exact PG.out
      · exact U2.out g3 q)
    have S3 : Hid (w.heap.size + 2 ≤ w3.heap.size) := Lib.hid (Nat.le_trans S2.out b3.size)
    have T3a := T3'.out.a
    unfold Bs at T3a
    obtain ⟨y0, y1, y2, y3, y4, y5, y6, -, -, -, -, -, -, -⟩ := T3a
    clear s3 q3 b3 p3 hrs T2 H2 U2 HC HH x5 hc R3 U3 S2
    go_wp2_with fail
    refine HW.out.mono ?_
    rintro e w4 ⟨g4, c4, rfl, p4, b4⟩
    obtain ⟨v', ev⟩ : ∃ v', v' = v.rows g4 c4 := ⟨_, rfl⟩
    have H4 : Rs w4 (Less P (w.heap.size + 1)) v' ⟨s.O, s.fl, setP s.ps n Y, s.op⟩ := by rw [ev]; exact (H3.out.on b4).rows ND.out HI.out HRS.out p4
    have S4 : w.heap.size + 2 ≤ w4.heap.size := Nat.le_trans S3.out b4.size
    have W5 := below1 w4 (.cells #[.slice v'.oa v'.K v'.oc, .slice v'.fa v'.nf v'.fc, .int .i64 v'.c, .int .i64 v'.B, .slice v'.na v'.N v'.nc, .slice v'.pa v'.N v'.pc, .slice v'.qa v'.M v'.qc] 36)
    have T5 : T4 w (w4.alloc (.cells #[.slice v'.oa v'.K v'.oc, .slice v'.fa v'.nf v'.fc, .int .i64 v'.c, .int .i64 v'.B, .slice v'.na v'.N v'.nc, .slice v'.pa v'.N v'.pc, .slice v'.qa v'.M v'.qc] 36)) v v' w4.heap.size := by
      have q := (T3'.out.on b4).on W5
      exact ⟨q.a, B7.new w4 _ _ _ _ _ _ _ _, q.r, q.below, S4, by simp⟩
    have H5 : Rs (w4.alloc (.cells #[.slice v'.oa v'.K v'.oc, .slice v'.fa v'.nf v'.fc, .int .i64 v'.c, .int .i64 v'.B, .slice v'.na v'.N v'.nc, .slice v'.pa v'.N v'.pc, .slice v'.qa v'.M v'.qc] 36)) (Lq P w w4.heap.size) v' ⟨s.O, s.fl, setP s.ps n Y, s.op⟩ := (H4.less (Nat.le_refl _)).on W5
    have I5 := (IY.out.on b4).on W5
    have G3' : Lq P w w4.heap.size g3 := ⟨G3.out, by
      obtain ⟨_, _, e, hl, _⟩ := IY.out.head (by have := L1.out; omega)
      injection e with e
      injection e with e1 _
      have := b4.size
      omega⟩
    have es : (.agg #[.slice v.oa v.K v.oc, .slice v.fa v.nf v.fc, .int .i64 v.c, .int .i64 v.B, .slice v.na v.N v.nc, .slice (some ⟨g4, 0, none⟩) v.N c4, .slice v.qa v.M v.qc] : Value) = (.agg #[.slice v'.oa v'.K v'.oc, .slice v'.fa v'.nf v'.fc, .int .i64 v'.c, .int .i64 v'.B, .slice v'.na v'.N v'.nc, .slice v'.pa v'.N v'.pc, .slice v'.qa v'.M v'.qc]) := by rw [ev]; rfl
    rw [es]
    have SM : Hid (Same v v') := Lib.hid (by rw [ev]; exact ⟨rfl, rfl, rfl⟩)
    have MM : Hid (v'.M ≤ 1024) := Lib.hid (by rw [ev]; exact hM)
    have H5' := Lib.hid H5
    have T5' := Lib.hid T5
    have I5' := Lib.hid I5
    have GG := Lib.hid G3'
    obtain ⟨qt, eqt⟩ : ∃ qt, qt = w4.heap.size := ⟨_, rfl⟩
    clear p4 b4 H4 S4 W5 T5 H5 I5 G3' es HW IY G3 S3 T3' H3 y0 y1 y2 y3 y4 y5 y6 ev
    obtain ⟨g12, c12, w6, r12, O12, b12, l12⟩ := aheadStep H5'.out.op (by have := MM.out; omega) (Lq_up UP0.out T5'.out) n NF.out (w4.heap.size + 1) (by simp)
    have T6 := T5'.out.on b12
    obtain ⟨T7s, b7⟩ := T6.open_ (some ⟨g12, 0, none⟩) (1 + v'.M) c12
    have H6 := H5'.out.on b12
    obtain ⟨v7, ev7⟩ : ∃ v7, v7 = v'.opens (some ⟨g12, 0, none⟩) (1 + v'.M) c12 := ⟨_, rfl⟩
    have H7 : Hid (Rs (w6.setCell ⟨w4.heap.size, 6, none⟩ (.slice (some ⟨g12, 0, none⟩) (1 + v'.M) c12)) (Lq P w w4.heap.size) v7 ⟨s.O, s.fl, setP s.ps n Y, opened X n s.op⟩) := Lib.hid (by
      rw [ev7, EO.out]
      have q : Rs w6 (Lq P w w4.heap.size) (v'.opens (some ⟨g12, 0, none⟩) (1 + v'.M) c12) ⟨s.O, s.fl, setP s.ps n Y, n :: s.op⟩ := ⟨H6.pool, H6.nums, H6.pages, O12⟩
      exact q.varq b7)
    have T7 : Hid (T4 w (w6.setCell ⟨w4.heap.size, 6, none⟩ (.slice (some ⟨g12, 0, none⟩) (1 + v'.M) c12)) v v7 w4.heap.size) := Lib.hid (by rw [ev7]; exact T7s)
    have I7 := Lib.hid (((I5'.out.on b12).butAt b7 (Nat.le_refl _) (fun e => GG.out.2 e)).more b7.size)
    have M7 : Hid (v7.M ≤ 100000) := Lib.hid (by rw [ev7]; have := MM.out; show 1 + v'.M ≤ 100000; omega)
    have K7 : Hid (v7.K = v.K) := Lib.hid (by rw [ev7]; exact SM.out.2.2)
    have EQ7 : (.slice v7.qa v7.M v7.qc : Value) = .slice (some ⟨g12, 0, none⟩) (1 + v'.M) c12 := by rw [ev7]; rfl
    have SM7 : Hid (Same v v7) := Lib.hid (by rw [ev7]; exact SM.out)
    have ES7 : Hid ((.agg #[.slice v'.oa v'.K v'.oc, .slice v'.fa v'.nf v'.fc, .int .i64 v'.c, .int .i64 v'.B, .slice v'.na v'.N v'.nc, .slice v'.pa v'.N v'.pc, .slice (some ⟨g12, 0, none⟩) (1 + v'.M) c12] : Value) = (.agg #[.slice v7.oa v7.K v7.oc, .slice v7.fa v7.nf v7.fc, .int .i64 v7.c, .int .i64 v7.B, .slice v7.na v7.N v7.nc, .slice v7.pa v7.N v7.pc, .slice v7.qa v7.M v7.qc])) := Lib.hid (by rw [ev7]; rfl)
    have RA12 := Lib.hid r12
    have FV : Hid (∀ W, Rs (set7 W (w.heap.size + 1) (.slice v7.oa v7.K v7.oc) (.slice v7.fa v7.nf v7.fc) (.int .i64 v7.c) (.int .i64 v7.B) (.slice v7.na v7.N v7.nc) (.slice v7.pa v7.N v7.pc) (.slice v7.qa v7.M v7.qc)) P v7 t' ↔ Rs (set7 W (w.heap.size + 1) (.slice v'.oa v'.K v'.oc) (.slice v'.fa v'.nf v'.fc) (.int .i64 v'.c) (.int .i64 v'.B) (.slice v'.na v'.N v'.nc) (.slice v'.pa v'.N v'.pc) (.slice (some ⟨g12, 0, none⟩) (1 + v'.M) c12)) P v7 t') := Lib.hid (fun W => by rw [ev7]; exact Iff.rfl)
    have T6t := T6.t
    unfold Bs at T6t
    obtain ⟨y0, y1, y2, y3, y4, y5, y6, -, -, -, -, -, -, k6⟩ := T6t
    obtain ⟨z0, z1, z2, z3, z4, z5, z6, j0, j1, j2, j3, j4, j5, j6⟩ := T6.r
    have EV7 := Lib.hid ev7
    clear H5' T5' I5' eqt r12 O12 b12 l12 T6 T7s b7 H6 ev7
    have HU : Hid (Calls Try.prog 52 #[.slice (some ⟨g3, 0, none⟩) lx c3] (w6.setCell ⟨w4.heap.size, 6, none⟩ (.slice (some ⟨g12, 0, none⟩) (1 + v'.M) c12)) (R1 ((Pg.usedN Y : Nat) : Int) (w6.setCell ⟨w4.heap.size, 6, none⟩ (.slice (some ⟨g12, 0, none⟩) (1 + v'.M) c12)))) := Lib.hid (Pg.refUsed_any (c := c3) I7.out LX.out)
    by_cases hu : Pg.usedN Y = 0
    · rw [if_pos hu] at EF
      have du : decide ((0 : Int) < ((Pg.usedN Y : Nat) : Int)) = false := by rw [hu]; rfl
      have HWo : Hid (Calls Try.prog 62 #[.slice v7.qa v7.M v7.qc, .int .i64 n] (w6.setCell ⟨w4.heap.size, 6, none⟩ (.slice (some ⟨g12, 0, none⟩) (1 + v'.M) c12)) fun e w' => ∃ a' N' c', e = .returned (.slice a' N' c') ∧ Ip w' (Lq P w w4.heap.size) a' N' c' ((opened X n s.op).filter (· != n)) ∧ Below (w6.setCell ⟨w4.heap.size, 6, none⟩ (.slice (some ⟨g12, 0, none⟩) (1 + v'.M) c12)).heap.size (w6.setCell ⟨w4.heap.size, 6, none⟩ (.slice (some ⟨g12, 0, none⟩) (1 + v'.M) c12)) w') := Lib.hid (refWithout_any H7.out.op M7.out (Lq_up UP0.out T7.out) n)
      rw [EQ7] at HWo
      generalize ((Pg.usedN Y : Nat) : Int) = un at HU du
      go_wp2_with (at_builtin; refine wpList_append_run rfl _ _ rfl rfl rfl rfl RA12.out ?_)
      refine HU.out.mono ?_
      rintro e wz ⟨rfl, rfl⟩
      go_wp2_with fail
      refine HWo.out.mono ?_
      rintro e w8 ⟨a8, N8, c8, rfl, p8, b8⟩
      have T8 := T7.out.on b8
      have H8 := H7.out.on b8
      obtain ⟨T9, b9⟩ := T8.open_ a8 N8 c8
      obtain ⟨w9, e9⟩ : ∃ w9, w9 = w8.setCell ⟨w4.heap.size, 6, none⟩ (.slice a8 N8 c8) := ⟨_, rfl⟩
      rw [← e9] at T9 b9
      have H9 := H8.varq b9
      have O9 := p8.but (b9.mono fun _ _ e p => p.2 e)
      have HA0 : Rs w (Lq P w w4.heap.size) v s := HR0.out.swap fun x hx p => ⟨⟨p, by omega⟩, by have := T9.l; omega⟩
      have bD := belowD (Below.refl w9.heap.size w9)
      have HA9 := (HA0.on T9.below).on bD
      have TD := T9.on bD
      obtain ⟨b, o, o', c', g10, c10, w10, g11, c11, w11, ea, cu1, cu2, r10, r11, N11, b11, b10, l11⟩ := numCut HA9.nums (by omega) (Lq_up UP0.out TD) hiN
      have T10 := TD.on b10
      have T11 := TD.on b11
      have TA := TD.on (below1 w9.drew (.cells #[] 3))
      have b12 := cell_but w11 w4.heap.size 4 (.slice (some ⟨g11, 0, none⟩) (v.N - 1) c11)
      obtain ⟨w12, e12⟩ : ∃ w12, w12 = w11.setCell ⟨w4.heap.size, 4, none⟩ (.slice (some ⟨g11, 0, none⟩) (v.N - 1) c11) := ⟨_, rfl⟩
      rw [← e12] at b12
      have sz12 : w11.heap.size = w12.heap.size := by rw [e12]; simp
      have l4 := T11.l
      have A12 : Bs w12 w.heap.size v := Bs.far T11.a b12 (fun e => by omega)
      have R12 := T11.r.but b12 (fun e => by omega)
      have Q12 := B7.set4 T11.t (.slice (some ⟨g11, 0, none⟩) (v.N - 1) c11)
      rw [← e12] at Q12
      have nv : ∀ {x y : World}, But (· = w4.heap.size) x y → But (fun j => ¬ Lq P w w4.heap.size j) x y := fun hb => hb.mono fun _ _ e p => p.2 e
      have bE := belowD (Below.refl w12.heap.size w12)
      have HA12 := ((HA9.on b11).but (nv b12)).on bE
      obtain ⟨rs0, pp0, hrs0⟩ := HA12.pages
      have U12 : Up w12.drew (Lq P w w4.heap.size) := (Lq_up UP0.out T11).on (Nat.le_of_eq sz12)
      obtain ⟨pb, po, po', pc', g13, c13, w13, g14, c14, w14, eb, pu1, pu2, r13, r14, P14, b14, b13, l14⟩ := rowCut pp0 (by omega) U12 hiN w12.heap.size rfl
      have A13 := B7.below (B7.below A12 bE) b13
      have A14 := B7.below (B7.below A12 bE) b14
      have A12a := B7.below (B7.below A12 bE) (below1 w12.drew (.cells #[] 31))
      have A12d := B7.below A12 bE
      have R14 := (R12.below bE).below b14
      have Q14 := (Q12.below bE).below b14
      have b15 := cell_but w14 w4.heap.size 5 (.slice (some ⟨g14, 0, none⟩) (v.N - 1) c14)
      obtain ⟨w15, e15⟩ : ∃ w15, w15 = w14.setCell ⟨w4.heap.size, 5, none⟩ (.slice (some ⟨g14, 0, none⟩) (v.N - 1) c14) := ⟨_, rfl⟩
      rw [← e15] at b15
      have Q15 := B7.set5 Q14 (.slice (some ⟨g14, 0, none⟩) (v.N - 1) c14)
      rw [← e15] at Q15
      have R15 := R14.but b15 (fun e => by omega)
      have PL15 : Pl.Rp w15 (fun k => Lq P w w4.heap.size k ∧ k < w15.heap.size) v7.oa v7.oc v7.fa v7.fc v7.nf v7.K s.O s.fl := Rp_but (Rp_but (Rp_but (Rp_but (Rp_but (Rp_but H9.pool (Below.but bD _)) (Below.but b11 _)) (nv b12)) (Below.but bE _)) (Below.but b14 _)) (nv b15)
      have N15 := ((N11.but (nv b12)).on bE |>.on b14).but (nv b15)
      have P15 := P14.but (nv b15)
      have O15 := ((((O9.on bD).on b11).but (nv b12)).on bE |>.on b14).but (nv b15)
      have U15 : Up w15 (Lq P w w4.heap.size) := U12.on (Nat.le_trans b14.size b15.size)
      have BW12 : Below w.heap.size w w12 := T11.below.trans (b12.one T11.below.size (by omega))
      have BW14 : Below w.heap.size w w14 := belowT (belowD BW12) b14
      have BW15 : Below w.heap.size w w15 := BW14.trans (b15.one BW14.size (by omega))
      have HGv : Hid (Calls Try.prog 64 #[.agg #[.slice v7.oa v7.K v7.oc, .slice v7.fa v7.nf v7.fc], .int .i64 n] w15 (Pl.RefGive (fun k => Lq P w w4.heap.size k ∧ k < w15.heap.size) v7.K (s.O.set kk (-1), n :: s.fl, 0) w15)) := Lib.hid (by
        have q := Pl.refGive_any PL15 (by rw [K7.out]; exact PW.out) (by rw [K7.out]; exact hK) n
        rwa [GO.out] at q)
      have hwr : IntKind.i64.wrap ((i : Int) + 1) = ((i + 1 : Nat) : Int) := by rw [IntWalk.i64_in _ (by omega)]; omega
      obtain ⟨i1, hi1⟩ : ∃ i1, i1 = i + 1 := ⟨_, rfl⟩
      rw [← hi1] at hwr cu2 pu2 r11 r14
      have i1N : i1 ≤ v.N := by omega
      clear hi1
      have na := T9.a.c4
      have a9 := TD.a.c4
      have aA := TA.a.c4
      have a10 := T10.a.c4
      have pa12 := A12d.c5
      have pa12a := A12a.c5
      have pa13 := A13.c5
      rw [ea] at a9 aA a10
      rw [eb] at pa12 pa12a pa13
      have t11 := T11.t
      have tf4 := t11.f4
      have tc4 := t11.c4
      have qf5 := Q14.f5
      have qc5 := Q14.c5
      have u0 := Q14.c0
      have u1 := Q14.c1
      have t8 := T8.t
      have tc6 := t8.c6
      have tf6 := t8.f6
      have R10 : Hid ((Builtin.append_ #[31, 31] 31 #[.slice (some ⟨w9.heap.size, 0, none⟩) 0 0, .slice (some ⟨b, o, none⟩) i v.nc]).run Try.prog ((w9.alloc (.cells #[] 3)).drew) = .ok (.slice (some ⟨g10, 0, none⟩) i c10) w10) := Lib.hid r10
      have aA' : ((w9.alloc (.cells #[] 3)).drew).cell? ⟨w.heap.size, 4, none⟩ = some (.slice (some ⟨b, o, none⟩) v.N v.nc) := aA
      have pA' : ((w12.alloc (.cells #[] 31)).drew).cell? ⟨w.heap.size, 5, none⟩ = some (.slice (some ⟨pb, po, none⟩) v.N v.pc) := pa12a
      clear aA pa12a
      have R11 := Lib.hid r11
      have R13' : Hid ((Builtin.append_ #[34, 34] 34 #[.slice (some ⟨w12.heap.size, 0, none⟩) 0 0, .slice (some ⟨pb, po, none⟩) i v.pc]).run Try.prog ((w12.alloc (.cells #[] 31)).drew) = .ok (.slice (some ⟨g13, 0, none⟩) i c13) w13) := Lib.hid r13
      have R14' := Lib.hid r14
      have E12 := Lib.hid e12
      have E15 := Lib.hid e15
      have E9 := Lib.hid e9
      have HN15 := Lib.hid N15
      have HP15 := Lib.hid P15
      have HO15 := Lib.hid O15
      have HU15 := Lib.hid U15
      have HQ15 := Lib.hid Q15
      have HR15 := Lib.hid R15
      have HBW := Lib.hid BW15
      have HRS0 := Lib.hid hrs0
      have SZ15 : Hid (w4.heap.size < w15.heap.size) := Lib.hid Q15.lt
      have L4 := Lib.hid l4
      clear y0 y1 y2 y3 y4 y5 y6 k6 z0 z1 z2 z3 z4 z5 z6 j0 j1 j2 j3 j4 j5 j6 RA12 p8 b8 T8 H8 T9 b9 H9 O9 HA0 bD HA9 TD r10 r11 N11 b11 b10 l11 T10 T11 TA b12 l4 A12 R12 Q12 nv bE HA12 pp0 hrs0 U12 r13 r14 P14 b14 b13 l14 A13 A14 A12a A12d R14 Q14 b15 Q15 R15 PL15 N15 P15 O15 U15 BW12 BW14 BW15 t11 t8 HWo HU T7 H7 I7 e9 e12 e15 sz12 na
      go_wp2_with fail
      rw [← E9.out]
      refine cutm (T := ?TF) ?laterF ?regionF
      case regionF =>
        intro key
        go_region_law (first | (refine step_append_run rfl (.tmp 62) (.tmp 66) rfl rfl rfl rfl R10.out ?_) | (refine step_append_run rfl (.tmp 67) (.tmp 72) rfl rfl rfl rfl R11.out ?_))
        all_goals exact key
      go_wp2_with fail
      rw [← E12.out]
      refine cutm (T := ?T2F) ?later2F ?region2F
      case region2F =>
        intro key
        go_region_law (first | (refine step_append_run rfl (.tmp 75) (.tmp 79) rfl rfl rfl rfl R13'.out ?_) | (refine step_append_run rfl (.tmp 80) (.tmp 85) rfl rfl rfl rfl R14'.out ?_))
        all_goals exact key
      go_wp2_with fail
      rw [← E15.out]
      refine HGv.out.mono ?_
      rintro e w16 ⟨oa, oc, fa, fc, nf, Q, rfl, rp16, b16, hQ⟩
      have P16 := pool_on rp16 HU15.out hQ
      have bv := below1 w16 (.cells #[.slice oa v7.K oc, .slice fa nf fc] 33)
      have Q17 := (HQ15.out.below b16).below bv
      have R17 := (HR15.out.below b16).below bv
      have lt16 : w4.heap.size < w16.heap.size := Nat.lt_of_lt_of_le SZ15.out b16.size
      have l4 := L4.out
      have b18 : But (· = w4.heap.size) (w16.alloc (.cells #[.slice oa v7.K oc, .slice fa nf fc] 33)) (((w16.alloc (.cells #[.slice oa v7.K oc, .slice fa nf fc] 33)).setCell ⟨w4.heap.size, 0, none⟩ (.slice oa v7.K oc)).setCell ⟨w4.heap.size, 1, none⟩ (.slice fa nf fc)) := ((But.refl (· = w4.heap.size) _).setCell (p := ⟨w4.heap.size, 0, none⟩) (fun _ => rfl) _).setCell (p := ⟨w4.heap.size, 1, none⟩) (fun _ => rfl) _
      have nv : ∀ {x y : World}, But (· = w4.heap.size) x y → But (fun j => ¬ Lq P w w4.heap.size j) x y := fun hb => hb.mono fun _ _ e p => p.2 e
      obtain ⟨v20, ev20⟩ : ∃ v20 : Rv, v20 = ⟨oa, v7.K, oc, fa, nf, fc, v7.c, v7.B, some ⟨g11, 0, none⟩, v.N - 1, c11, some ⟨g14, 0, none⟩, c14, a8, N8, c8⟩ := ⟨_, rfl⟩
      have N18 := ((HN15.out.on b16).on bv).but (nv b18)
      have P18 := ((HP15.out.on b16).on bv).but (nv b18)
      have O18 := ((HO15.out.on b16).on bv).but (nv b18)
      have H18 : Rs (((w16.alloc (.cells #[.slice oa v7.K oc, .slice fa nf fc] 33)).setCell ⟨w4.heap.size, 0, none⟩ (.slice oa v7.K oc)).setCell ⟨w4.heap.size, 1, none⟩ (.slice fa nf fc)) (Lq P w w4.heap.size) v20 t' := by
        rw [ev20, ← EF]
        refine ⟨Rp_but (Rp_but P16 (Below.but bv _)) (nv b18), ?_, ⟨_, P18, ?_⟩, ?_⟩
        · show Ip _ _ _ _ _ (nums (delP s.ps n))
          rw [← del_at ND.out HI.out, nums_eraseIdx]
          exact N18
        · rw [map_eraseIdx, HRS0.out, ← map_eraseIdx, del_at ND.out HI.out]
        · show Ip _ _ _ _ _ ((opened X n s.op).erase n)
          rw [NO1.out.erase_eq_filter n]
          exact O18
      have BW18 := (belowT (belowT HBW.out b16) bv).trans (b18.one (belowT (belowT HBW.out b16) bv).size (by omega))
      have b19 := set7_but (t0 := .slice v20.oa v20.K v20.oc) (t1 := .slice v20.fa v20.nf v20.fc) (t2 := .int .i64 v20.c) (t3 := .int .i64 v20.B) (t4 := .slice v20.na v20.N v20.nc) (t5 := .slice v20.pa v20.N v20.pc) (t6 := .slice v20.qa v20.M v20.qc) (((w16.alloc (.cells #[.slice oa v7.K oc, .slice fa nf fc] 33)).setCell ⟨w4.heap.size, 0, none⟩ (.slice oa v7.K oc)).setCell ⟨w4.heap.size, 1, none⟩ (.slice fa nf fc)) (w.heap.size + 1)
      have FIN := Lib.hid (show Rs (set7 (((w16.alloc (.cells #[.slice oa v7.K oc, .slice fa nf fc] 33)).setCell ⟨w4.heap.size, 0, none⟩ (.slice oa v7.K oc)).setCell ⟨w4.heap.size, 1, none⟩ (.slice fa nf fc)) (w.heap.size + 1) (.slice v20.oa v20.K v20.oc) (.slice v20.fa v20.nf v20.fc) (.int .i64 v20.c) (.int .i64 v20.B) (.slice v20.na v20.N v20.nc) (.slice v20.pa v20.N v20.pc) (.slice v20.qa v20.M v20.qc)) P v20 t' ∧ Same v v20 ∧ Below w.heap.size w (set7 (((w16.alloc (.cells #[.slice oa v7.K oc, .slice fa nf fc] 33)).setCell ⟨w4.heap.size, 0, none⟩ (.slice oa v7.K oc)).setCell ⟨w4.heap.size, 1, none⟩ (.slice fa nf fc)) (w.heap.size + 1) (.slice v20.oa v20.K v20.oc) (.slice v20.fa v20.nf v20.fc) (.int .i64 v20.c) (.int .i64 v20.B) (.slice v20.na v20.N v20.nc) (.slice v20.pa v20.N v20.pc) (.slice v20.qa v20.M v20.qc)) from ⟨H18.resq b19, by rw [ev20]; exact SM7.out, set7_below BW18 (Nat.le_refl _) (by omega) _ _ _ _ _ _ _⟩)
      unfold set7 at FIN
      have es20 : Hid ((.agg #[.slice oa v7.K oc, .slice fa nf fc, .int .i64 v7.c, .int .i64 v7.B, .slice (some ⟨g11, 0, none⟩) (v.N - 1) c11, .slice (some ⟨g14, 0, none⟩) (v.N - 1) c14, .slice a8 N8 c8] : Value) = (.agg #[.slice v20.oa v20.K v20.oc, .slice v20.fa v20.nf v20.fc, .int .i64 v20.c, .int .i64 v20.B, .slice v20.na v20.N v20.nc, .slice v20.pa v20.N v20.pc, .slice v20.qa v20.M v20.qc])) := Lib.hid (by rw [ev20])
      rw [ev20] at FIN
      have EV20 := Lib.hid ev20
      obtain ⟨y0, y1, y2, y3, y4, y5, y6, k0, k1, -, -, -, -, -⟩ := Q17
      dsimp only [Rv.opens] at y0 y1 y2 y3 y6
      obtain ⟨z0, z1, z2, z3, z4, z5, z6, j0, j1, j2, j3, j4, j5, j6⟩ := R17
      have m1 : ¬ w16.heap.size = w4.heap.size := by omega
      have m2 : ¬ w4.heap.size = w16.heap.size := by omega
      have m3 : ¬ w4.heap.size = w.heap.size + 1 := by omega
      have m4 : ¬ w.heap.size + 1 = w4.heap.size := by omega
      clear rp16 b16 hQ P16 bv lt16 l4 b18 nv N18 P18 O18 H18 BW18 b19 ev20 HGv HN15 HP15 HO15 HU15 HQ15 HR15 HBW HRS0 SZ15 L4 R10 R11 R13' R14' E12 E15 E9 ea eb cu1 cu2 pu1 pu2 a9 a10 aA' pA' pa12 pa13 tf4 tc4 qf5 qc5 u0 u1 tc6 tf6 hwr
      go_wp2
      refine bodyPost_ret (v := .tuple #[.agg #[.slice oa v7.K oc, .slice fa nf fc, .int .i64 v7.c, .int .i64 v7.B, .slice (some ⟨g11, 0, none⟩) (v.N - 1) c11, .slice (some ⟨g14, 0, none⟩) (v.N - 1) c14, .slice a8 N8 c8], .int .i64 0]) (by simp [results, Try.results34, go_sem, z0, z1, z2, z3, z4, z5, z6]) rfl ?_
      exact ⟨v20, by rw [← es20.out], by rw [EV20.out]; exact FIN.out⟩
    · rw [if_neg hu] at EF
      have du : decide ((0 : Int) < ((Pg.usedN Y : Nat) : Int)) = true := by simp; omega
      have b8 := set7_but (t0 := .slice v7.oa v7.K v7.oc) (t1 := .slice v7.fa v7.nf v7.fc) (t2 := .int .i64 v7.c) (t3 := .int .i64 v7.B) (t4 := .slice v7.na v7.N v7.nc) (t5 := .slice v7.pa v7.N v7.pc) (t6 := .slice v7.qa v7.M v7.qc) (w6.setCell ⟨w4.heap.size, 6, none⟩ (.slice (some ⟨g12, 0, none⟩) (1 + v'.M) c12)) (w.heap.size + 1)
      have FIN := Lib.hid (show Rs (set7 (w6.setCell ⟨w4.heap.size, 6, none⟩ (.slice (some ⟨g12, 0, none⟩) (1 + v'.M) c12)) (w.heap.size + 1) (.slice v7.oa v7.K v7.oc) (.slice v7.fa v7.nf v7.fc) (.int .i64 v7.c) (.int .i64 v7.B) (.slice v7.na v7.N v7.nc) (.slice v7.pa v7.N v7.pc) (.slice v7.qa v7.M v7.qc)) P v7 t' ∧ Same v v7 ∧ Below w.heap.size w (set7 (w6.setCell ⟨w4.heap.size, 6, none⟩ (.slice (some ⟨g12, 0, none⟩) (1 + v'.M) c12)) (w.heap.size + 1) (.slice v7.oa v7.K v7.oc) (.slice v7.fa v7.nf v7.fc) (.int .i64 v7.c) (.int .i64 v7.B) (.slice v7.na v7.N v7.nc) (.slice v7.pa v7.N v7.pc) (.slice v7.qa v7.M v7.qc)) from ⟨by rw [← EF]; exact H7.out.resq b8, SM7.out, set7_below T7.out.below (Nat.le_refl _) (by omega) _ _ _ _ _ _ _⟩)
      rw [EV7.out] at FIN
      unfold set7 at FIN
      dsimp only [Rv.opens] at FIN
      have m3 : ¬ w4.heap.size = w.heap.size + 1 := by have := T7.out.l; omega
      have m4 : ¬ w.heap.size + 1 = w4.heap.size := by have := T7.out.l; omega
      clear b8 H7 T7 I7
      generalize ((Pg.usedN Y : Nat) : Int) = un at HU du
      go_wp2_with (at_builtin; refine wpList_append_run rfl _ _ rfl rfl rfl rfl RA12.out ?_)
      refine HU.out.mono ?_
      rintro e wz ⟨rfl, rfl⟩
      clear HU
      go_wp2
      refine bodyPost_ret (v := .tuple #[.agg #[.slice v'.oa v'.K v'.oc, .slice v'.fa v'.nf v'.fc, .int .i64 v'.c, .int .i64 v'.B, .slice v'.na v'.N v'.nc, .slice v'.pa v'.N v'.pc, .slice (some ⟨g12, 0, none⟩) (1 + v'.M) c12], .int .i64 0]) (by simp [results, Try.results34, go_sem, z0, z1, z2, z3, z4, z5, z6]) rfl ?_
      exact ⟨v'.opens (some ⟨g12, 0, none⟩) (1 + v'.M) c12, rfl, FIN.out⟩
  · have df : decide (Pg.holeOf X < 0) = false := by
      rcases Pg.hole_cases X with ⟨q, _⟩ | ⟨z, q, _⟩
      · exact absurd q hf
      · simp; omega
    rw [if_neg hf] at EO
    clear hf
    generalize hho : Pg.holeOf X = ho at HHo df
    clear hho
    go_enter Try.func34, Try.ntmps34
    go_wp2_with fail
    refine HF.out.mono ?_
    rintro e w2 ⟨rfl, b2⟩
    have T2 := Lib.hid (HT.out.on b2)
    have H2 := Lib.hid (HA.out.on b2)
    have U2 := Lib.hid (UP.out.on b2.size)
    have S2 : Hid (w.heap.size + 2 ≤ w2.heap.size) := Lib.hid (by rw [← HSZ.out]; exact b2.size)
    obtain ⟨b, oo, g, cap, ea, hc, hI, pg, h1, hbl⟩ := H2.out.at_ HI.out
    have x5 := T2.out.a.c5
    rw [ea] at x5
    have HC := Lib.hid (HCC.out w2 g cap hI)
    have HH := Lib.hid (HHo.out w2 g cap hI)
    have d1 : decide ((i : Int) < 0) = false := by simp
    have PG := Lib.hid pg
    have L1 := Lib.hid h1
    clear b2 HT HA UP HF hI hbl pg h1 ea HCC HHo HSZ
    generalize hlX : X.length = lx at hc HC HH L1 OL LX
    clear hlX
    go_wp2_with fail
    refine HH.out.mono ?_
    rintro e wz ⟨rfl, rfl⟩
    go_wp2_with fail
    refine HC.out.mono ?_
    rintro e w3 ⟨g3, c3, rfl, s3, q3, b3⟩
    have T3' := Lib.hid (T2.out.on b3)
    have H3 := Lib.hid (H2.out.on b3)
    have U3 := Lib.hid (U2.out.on b3.size)
    have R3 : Hid (Row w3 (Less P (w.heap.size + 1)) (.slice (some ⟨g3, 0, none⟩) lx c3) Y) := Lib.hid ⟨g3, c3, by rw [OL.out], by rw [OL.out]; exact s3, by
      rcases q3 with q | q
      · rw [q]; exact PG.out
      · exact U2.out g3 q, by rw [OL.out]; exact L1.out⟩
    obtain ⟨rs, p3, hrs⟩ := H3.out.pages
    have HW := Lib.hid (refWith_any v p3 (by omega) U3.out i hiN R3.out)
    have HRS := Lib.hid hrs
    have IY := Lib.hid (show Ints w3 w3.heap.size (some ⟨g3, 0, none⟩) lx Y from s3)
    have G3 : Hid (Less P (w.heap.size + 1) g3) := Lib.hid (by
      rcases q3 with q | q
      · rw [q]; exact PG.out
      · exact U2.out g3 q)
    have S3 : Hid (w.heap.size + 2 ≤ w3.heap.size) := Lib.hid (Nat.le_trans S2.out b3.size)
    have T3a := T3'.out.a
    unfold Bs at T3a
    obtain ⟨y0, y1, y2, y3, y4, y5, y6, -, -, -, -, -, -, -⟩ := T3a
    clear s3 q3 b3 p3 hrs T2 H2 U2 HC HH x5 hc R3 U3 S2
    go_wp2_with fail
    refine HW.out.mono ?_
    rintro e w4 ⟨g4, c4, rfl, p4, b4⟩
    obtain ⟨v', ev⟩ : ∃ v', v' = v.rows g4 c4 := ⟨_, rfl⟩
    have H4 : Rs w4 (Less P (w.heap.size + 1)) v' ⟨s.O, s.fl, setP s.ps n Y, s.op⟩ := by rw [ev]; exact (H3.out.on b4).rows ND.out HI.out HRS.out p4
    have S4 : w.heap.size + 2 ≤ w4.heap.size := Nat.le_trans S3.out b4.size
    have W5 := below1 w4 (.cells #[.slice v'.oa v'.K v'.oc, .slice v'.fa v'.nf v'.fc, .int .i64 v'.c, .int .i64 v'.B, .slice v'.na v'.N v'.nc, .slice v'.pa v'.N v'.pc, .slice v'.qa v'.M v'.qc] 36)
    have T5 : T4 w (w4.alloc (.cells #[.slice v'.oa v'.K v'.oc, .slice v'.fa v'.nf v'.fc, .int .i64 v'.c, .int .i64 v'.B, .slice v'.na v'.N v'.nc, .slice v'.pa v'.N v'.pc, .slice v'.qa v'.M v'.qc] 36)) v v' w4.heap.size := by
      have q := (T3'.out.on b4).on W5
      exact ⟨q.a, B7.new w4 _ _ _ _ _ _ _ _, q.r, q.below, S4, by simp⟩
    have H5 : Rs (w4.alloc (.cells #[.slice v'.oa v'.K v'.oc, .slice v'.fa v'.nf v'.fc, .int .i64 v'.c, .int .i64 v'.B, .slice v'.na v'.N v'.nc, .slice v'.pa v'.N v'.pc, .slice v'.qa v'.M v'.qc] 36)) (Lq P w w4.heap.size) v' ⟨s.O, s.fl, setP s.ps n Y, s.op⟩ := (H4.less (Nat.le_refl _)).on W5
    have I5 := (IY.out.on b4).on W5
    have G3' : Lq P w w4.heap.size g3 := ⟨G3.out, by
      obtain ⟨_, _, e, hl, _⟩ := IY.out.head (by have := L1.out; omega)
      injection e with e
      injection e with e1 _
      have := b4.size
      omega⟩
    have es : (.agg #[.slice v.oa v.K v.oc, .slice v.fa v.nf v.fc, .int .i64 v.c, .int .i64 v.B, .slice v.na v.N v.nc, .slice (some ⟨g4, 0, none⟩) v.N c4, .slice v.qa v.M v.qc] : Value) = (.agg #[.slice v'.oa v'.K v'.oc, .slice v'.fa v'.nf v'.fc, .int .i64 v'.c, .int .i64 v'.B, .slice v'.na v'.N v'.nc, .slice v'.pa v'.N v'.pc, .slice v'.qa v'.M v'.qc]) := by rw [ev]; rfl
    rw [es]
    have SM : Hid (Same v v') := Lib.hid (by rw [ev]; exact ⟨rfl, rfl, rfl⟩)
    have MM : Hid (v'.M ≤ 1024) := Lib.hid (by rw [ev]; exact hM)
    have H5' := Lib.hid H5
    have T5' := Lib.hid T5
    have I5' := Lib.hid I5
    have GG := Lib.hid G3'
    obtain ⟨qt, eqt⟩ : ∃ qt, qt = w4.heap.size := ⟨_, rfl⟩
    clear p4 b4 H4 S4 W5 T5 H5 I5 G3' es HW IY G3 S3 T3' H3 y0 y1 y2 y3 y4 y5 y6 ev
    obtain ⟨v7, ev7⟩ : ∃ v7, v7 = v' := ⟨_, rfl⟩
    have H7 : Hid (Rs (w4.alloc (.cells #[.slice v'.oa v'.K v'.oc, .slice v'.fa v'.nf v'.fc, .int .i64 v'.c, .int .i64 v'.B, .slice v'.na v'.N v'.nc, .slice v'.pa v'.N v'.pc, .slice v'.qa v'.M v'.qc] 36)) (Lq P w w4.heap.size) v7 ⟨s.O, s.fl, setP s.ps n Y, opened X n s.op⟩) := Lib.hid (by rw [ev7, EO.out]; exact H5'.out)
    have T7 : Hid (T4 w (w4.alloc (.cells #[.slice v'.oa v'.K v'.oc, .slice v'.fa v'.nf v'.fc, .int .i64 v'.c, .int .i64 v'.B, .slice v'.na v'.N v'.nc, .slice v'.pa v'.N v'.pc, .slice v'.qa v'.M v'.qc] 36)) v v7 w4.heap.size) := Lib.hid (by rw [ev7]; exact T5'.out)
    have I7 := I5'
    have M7 : Hid (v7.M ≤ 100000) := Lib.hid (by rw [ev7]; have := MM.out; omega)
    have K7 : Hid (v7.K = v.K) := Lib.hid (by rw [ev7]; exact SM.out.2.2)
    have EQ7 : (.slice v7.qa v7.M v7.qc : Value) = .slice v'.qa v'.M v'.qc := by rw [ev7]
    have SM7 : Hid (Same v v7) := Lib.hid (by rw [ev7]; exact SM.out)
    subst ev7
    clear H5' T5' I5' eqt
    have HU : Hid (Calls Try.prog 52 #[.slice (some ⟨g3, 0, none⟩) lx c3] (w4.alloc (.cells #[.slice v7.oa v7.K v7.oc, .slice v7.fa v7.nf v7.fc, .int .i64 v7.c, .int .i64 v7.B, .slice v7.na v7.N v7.nc, .slice v7.pa v7.N v7.pc, .slice v7.qa v7.M v7.qc] 36)) (R1 ((Pg.usedN Y : Nat) : Int) (w4.alloc (.cells #[.slice v7.oa v7.K v7.oc, .slice v7.fa v7.nf v7.fc, .int .i64 v7.c, .int .i64 v7.B, .slice v7.na v7.N v7.nc, .slice v7.pa v7.N v7.pc, .slice v7.qa v7.M v7.qc] 36)))) := Lib.hid (Pg.refUsed_any (c := c3) I7.out LX.out)
    by_cases hu : Pg.usedN Y = 0
    · rw [if_pos hu] at EF
      have du : decide ((0 : Int) < ((Pg.usedN Y : Nat) : Int)) = false := by rw [hu]; rfl
      have HWo : Hid (Calls Try.prog 62 #[.slice v7.qa v7.M v7.qc, .int .i64 n] (w4.alloc (.cells #[.slice v7.oa v7.K v7.oc, .slice v7.fa v7.nf v7.fc, .int .i64 v7.c, .int .i64 v7.B, .slice v7.na v7.N v7.nc, .slice v7.pa v7.N v7.pc, .slice v7.qa v7.M v7.qc] 36)) fun e w' => ∃ a' N' c', e = .returned (.slice a' N' c') ∧ Ip w' (Lq P w w4.heap.size) a' N' c' ((opened X n s.op).filter (· != n)) ∧ Below (w4.alloc (.cells #[.slice v7.oa v7.K v7.oc, .slice v7.fa v7.nf v7.fc, .int .i64 v7.c, .int .i64 v7.B, .slice v7.na v7.N v7.nc, .slice v7.pa v7.N v7.pc, .slice v7.qa v7.M v7.qc] 36)).heap.size (w4.alloc (.cells #[.slice v7.oa v7.K v7.oc, .slice v7.fa v7.nf v7.fc, .int .i64 v7.c, .int .i64 v7.B, .slice v7.na v7.N v7.nc, .slice v7.pa v7.N v7.pc, .slice v7.qa v7.M v7.qc] 36)) w') := Lib.hid (refWithout_any H7.out.op M7.out (Lq_up UP0.out T7.out) n)
      rw [EQ7] at HWo
      generalize ((Pg.usedN Y : Nat) : Int) = un at HU du
      go_wp2_with fail
      refine HU.out.mono ?_
      rintro e wz ⟨rfl, rfl⟩
      go_wp2_with fail
      refine HWo.out.mono ?_
      rintro e w8 ⟨a8, N8, c8, rfl, p8, b8⟩
      have T8 := T7.out.on b8
      have H8 := H7.out.on b8
      obtain ⟨T9, b9⟩ := T8.open_ a8 N8 c8
      obtain ⟨w9, e9⟩ : ∃ w9, w9 = w8.setCell ⟨w4.heap.size, 6, none⟩ (.slice a8 N8 c8) := ⟨_, rfl⟩
      rw [← e9] at T9 b9
      have H9 := H8.varq b9
      have O9 := p8.but (b9.mono fun _ _ e p => p.2 e)
      have HA0 : Rs w (Lq P w w4.heap.size) v s := HR0.out.swap fun x hx p => ⟨⟨p, by omega⟩, by have := T9.l; omega⟩
      have bD := belowD (Below.refl w9.heap.size w9)
      have HA9 := (HA0.on T9.below).on bD
      have TD := T9.on bD
      obtain ⟨b, o, o', c', g10, c10, w10, g11, c11, w11, ea, cu1, cu2, r10, r11, N11, b11, b10, l11⟩ := numCut HA9.nums (by omega) (Lq_up UP0.out TD) hiN
      have T10 := TD.on b10
      have T11 := TD.on b11
      have TA := TD.on (below1 w9.drew (.cells #[] 3))
      have b12 := cell_but w11 w4.heap.size 4 (.slice (some ⟨g11, 0, none⟩) (v.N - 1) c11)
      obtain ⟨w12, e12⟩ : ∃ w12, w12 = w11.setCell ⟨w4.heap.size, 4, none⟩ (.slice (some ⟨g11, 0, none⟩) (v.N - 1) c11) := ⟨_, rfl⟩
      rw [← e12] at b12
      have sz12 : w11.heap.size = w12.heap.size := by rw [e12]; simp
      have l4 := T11.l
      have A12 : Bs w12 w.heap.size v := Bs.far T11.a b12 (fun e => by omega)
      have R12 := T11.r.but b12 (fun e => by omega)
      have Q12 := B7.set4 T11.t (.slice (some ⟨g11, 0, none⟩) (v.N - 1) c11)
      rw [← e12] at Q12
      have nv : ∀ {x y : World}, But (· = w4.heap.size) x y → But (fun j => ¬ Lq P w w4.heap.size j) x y := fun hb => hb.mono fun _ _ e p => p.2 e
      have bE := belowD (Below.refl w12.heap.size w12)
      have HA12 := ((HA9.on b11).but (nv b12)).on bE
      obtain ⟨rs0, pp0, hrs0⟩ := HA12.pages
      have U12 : Up w12.drew (Lq P w w4.heap.size) := (Lq_up UP0.out T11).on (Nat.le_of_eq sz12)
      obtain ⟨pb, po, po', pc', g13, c13, w13, g14, c14, w14, eb, pu1, pu2, r13, r14, P14, b14, b13, l14⟩ := rowCut pp0 (by omega) U12 hiN w12.heap.size rfl
      have A13 := B7.below (B7.below A12 bE) b13
      have A14 := B7.below (B7.below A12 bE) b14
      have A12a := B7.below (B7.below A12 bE) (below1 w12.drew (.cells #[] 31))
      have A12d := B7.below A12 bE
      have R14 := (R12.below bE).below b14
      have Q14 := (Q12.below bE).below b14
      have b15 := cell_but w14 w4.heap.size 5 (.slice (some ⟨g14, 0, none⟩) (v.N - 1) c14)
      obtain ⟨w15, e15⟩ : ∃ w15, w15 = w14.setCell ⟨w4.heap.size, 5, none⟩ (.slice (some ⟨g14, 0, none⟩) (v.N - 1) c14) := ⟨_, rfl⟩
      rw [← e15] at b15
      have Q15 := B7.set5 Q14 (.slice (some ⟨g14, 0, none⟩) (v.N - 1) c14)
      rw [← e15] at Q15
      have R15 := R14.but b15 (fun e => by omega)
      have PL15 : Pl.Rp w15 (fun k => Lq P w w4.heap.size k ∧ k < w15.heap.size) v7.oa v7.oc v7.fa v7.fc v7.nf v7.K s.O s.fl := Rp_but (Rp_but (Rp_but (Rp_but (Rp_but (Rp_but H9.pool (Below.but bD _)) (Below.but b11 _)) (nv b12)) (Below.but bE _)) (Below.but b14 _)) (nv b15)
      have N15 := ((N11.but (nv b12)).on bE |>.on b14).but (nv b15)
      have P15 := P14.but (nv b15)
      have O15 := ((((O9.on bD).on b11).but (nv b12)).on bE |>.on b14).but (nv b15)
      have U15 : Up w15 (Lq P w w4.heap.size) := U12.on (Nat.le_trans b14.size b15.size)
      have BW12 : Below w.heap.size w w12 := T11.below.trans (b12.one T11.below.size (by omega))
      have BW14 : Below w.heap.size w w14 := belowT (belowD BW12) b14
      have BW15 : Below w.heap.size w w15 := BW14.trans (b15.one BW14.size (by omega))
      have HGv : Hid (Calls Try.prog 64 #[.agg #[.slice v7.oa v7.K v7.oc, .slice v7.fa v7.nf v7.fc], .int .i64 n] w15 (Pl.RefGive (fun k => Lq P w w4.heap.size k ∧ k < w15.heap.size) v7.K (s.O.set kk (-1), n :: s.fl, 0) w15)) := Lib.hid (by
        have q := Pl.refGive_any PL15 (by rw [K7.out]; exact PW.out) (by rw [K7.out]; exact hK) n
        rwa [GO.out] at q)
      have hwr : IntKind.i64.wrap ((i : Int) + 1) = ((i + 1 : Nat) : Int) := by rw [IntWalk.i64_in _ (by omega)]; omega
      obtain ⟨i1, hi1⟩ : ∃ i1, i1 = i + 1 := ⟨_, rfl⟩
      rw [← hi1] at hwr cu2 pu2 r11 r14
      have i1N : i1 ≤ v.N := by omega
      clear hi1
      have na := T9.a.c4
      have a9 := TD.a.c4
      have aA := TA.a.c4
      have a10 := T10.a.c4
      have pa12 := A12d.c5
      have pa12a := A12a.c5
      have pa13 := A13.c5
      rw [ea] at a9 aA a10
      rw [eb] at pa12 pa12a pa13
      have t11 := T11.t
      have tf4 := t11.f4
      have tc4 := t11.c4
      have qf5 := Q14.f5
      have qc5 := Q14.c5
      have u0 := Q14.c0
      have u1 := Q14.c1
      have t8 := T8.t
      have tc6 := t8.c6
      have tf6 := t8.f6
      have R10 : Hid ((Builtin.append_ #[31, 31] 31 #[.slice (some ⟨w9.heap.size, 0, none⟩) 0 0, .slice (some ⟨b, o, none⟩) i v.nc]).run Try.prog ((w9.alloc (.cells #[] 3)).drew) = .ok (.slice (some ⟨g10, 0, none⟩) i c10) w10) := Lib.hid r10
      have aA' : ((w9.alloc (.cells #[] 3)).drew).cell? ⟨w.heap.size, 4, none⟩ = some (.slice (some ⟨b, o, none⟩) v.N v.nc) := aA
      have pA' : ((w12.alloc (.cells #[] 31)).drew).cell? ⟨w.heap.size, 5, none⟩ = some (.slice (some ⟨pb, po, none⟩) v.N v.pc) := pa12a
      clear aA pa12a
      have R11 := Lib.hid r11
      have R13' : Hid ((Builtin.append_ #[34, 34] 34 #[.slice (some ⟨w12.heap.size, 0, none⟩) 0 0, .slice (some ⟨pb, po, none⟩) i v.pc]).run Try.prog ((w12.alloc (.cells #[] 31)).drew) = .ok (.slice (some ⟨g13, 0, none⟩) i c13) w13) := Lib.hid r13
      have R14' := Lib.hid r14
      have E12 := Lib.hid e12
      have E15 := Lib.hid e15
      have E9 := Lib.hid e9
      have HN15 := Lib.hid N15
      have HP15 := Lib.hid P15
      have HO15 := Lib.hid O15
      have HU15 := Lib.hid U15
      have HQ15 := Lib.hid Q15
      have HR15 := Lib.hid R15
      have HBW := Lib.hid BW15
      have HRS0 := Lib.hid hrs0
      have SZ15 : Hid (w4.heap.size < w15.heap.size) := Lib.hid Q15.lt
      have L4 := Lib.hid l4
      clear p8 b8 T8 H8 T9 b9 H9 O9 HA0 bD HA9 TD r10 r11 N11 b11 b10 l11 T10 T11 TA b12 l4 A12 R12 Q12 nv bE HA12 pp0 hrs0 U12 r13 r14 P14 b14 b13 l14 A13 A14 A12a A12d R14 Q14 b15 Q15 R15 PL15 N15 P15 O15 U15 BW12 BW14 BW15 t11 t8 HWo HU T7 H7 I7 e9 e12 e15 sz12 na
      go_wp2_with fail
      rw [← E9.out]
      refine cutm (T := ?T) ?later ?region
      case region =>
        intro key
        go_region_law (first | (refine step_append_run rfl (.tmp 62) (.tmp 66) rfl rfl rfl rfl R10.out ?_) | (refine step_append_run rfl (.tmp 67) (.tmp 72) rfl rfl rfl rfl R11.out ?_))
        all_goals exact key
      go_wp2_with fail
      rw [← E12.out]
      refine cutm (T := ?T2) ?later2 ?region2
      case region2 =>
        intro key
        go_region_law (first | (refine step_append_run rfl (.tmp 75) (.tmp 79) rfl rfl rfl rfl R13'.out ?_) | (refine step_append_run rfl (.tmp 80) (.tmp 85) rfl rfl rfl rfl R14'.out ?_))
        all_goals exact key
      go_wp2_with fail
      rw [← E15.out]
      refine HGv.out.mono ?_
      rintro e w16 ⟨oa, oc, fa, fc, nf, Q, rfl, rp16, b16, hQ⟩
      have P16 := pool_on rp16 HU15.out hQ
      have bv := below1 w16 (.cells #[.slice oa v7.K oc, .slice fa nf fc] 33)
      have Q17 := (HQ15.out.below b16).below bv
      have R17 := (HR15.out.below b16).below bv
      have lt16 : w4.heap.size < w16.heap.size := Nat.lt_of_lt_of_le SZ15.out b16.size
      have l4 := L4.out
      have b18 : But (· = w4.heap.size) (w16.alloc (.cells #[.slice oa v7.K oc, .slice fa nf fc] 33)) (((w16.alloc (.cells #[.slice oa v7.K oc, .slice fa nf fc] 33)).setCell ⟨w4.heap.size, 0, none⟩ (.slice oa v7.K oc)).setCell ⟨w4.heap.size, 1, none⟩ (.slice fa nf fc)) := ((But.refl (· = w4.heap.size) _).setCell (p := ⟨w4.heap.size, 0, none⟩) (fun _ => rfl) _).setCell (p := ⟨w4.heap.size, 1, none⟩) (fun _ => rfl) _
      have nv : ∀ {x y : World}, But (· = w4.heap.size) x y → But (fun j => ¬ Lq P w w4.heap.size j) x y := fun hb => hb.mono fun _ _ e p => p.2 e
      obtain ⟨v20, ev20⟩ : ∃ v20 : Rv, v20 = ⟨oa, v7.K, oc, fa, nf, fc, v7.c, v7.B, some ⟨g11, 0, none⟩, v.N - 1, c11, some ⟨g14, 0, none⟩, c14, a8, N8, c8⟩ := ⟨_, rfl⟩
      have N18 := ((HN15.out.on b16).on bv).but (nv b18)
      have P18 := ((HP15.out.on b16).on bv).but (nv b18)
      have O18 := ((HO15.out.on b16).on bv).but (nv b18)
      have H18 : Rs (((w16.alloc (.cells #[.slice oa v7.K oc, .slice fa nf fc] 33)).setCell ⟨w4.heap.size, 0, none⟩ (.slice oa v7.K oc)).setCell ⟨w4.heap.size, 1, none⟩ (.slice fa nf fc)) (Lq P w w4.heap.size) v20 t' := by
        rw [ev20, ← EF]
        refine ⟨Rp_but (Rp_but P16 (Below.but bv _)) (nv b18), ?_, ⟨_, P18, ?_⟩, ?_⟩
        · show Ip _ _ _ _ _ (nums (delP s.ps n))
          rw [← del_at ND.out HI.out, nums_eraseIdx]
          exact N18
        · rw [map_eraseIdx, HRS0.out, ← map_eraseIdx, del_at ND.out HI.out]
        · show Ip _ _ _ _ _ ((opened X n s.op).erase n)
          rw [NO1.out.erase_eq_filter n]
          exact O18
      have BW18 := (belowT (belowT HBW.out b16) bv).trans (b18.one (belowT (belowT HBW.out b16) bv).size (by omega))
      have b19 := set7_but (t0 := .slice v20.oa v20.K v20.oc) (t1 := .slice v20.fa v20.nf v20.fc) (t2 := .int .i64 v20.c) (t3 := .int .i64 v20.B) (t4 := .slice v20.na v20.N v20.nc) (t5 := .slice v20.pa v20.N v20.pc) (t6 := .slice v20.qa v20.M v20.qc) (((w16.alloc (.cells #[.slice oa v7.K oc, .slice fa nf fc] 33)).setCell ⟨w4.heap.size, 0, none⟩ (.slice oa v7.K oc)).setCell ⟨w4.heap.size, 1, none⟩ (.slice fa nf fc)) (w.heap.size + 1)
      have FIN := Lib.hid (show Rs (set7 (((w16.alloc (.cells #[.slice oa v7.K oc, .slice fa nf fc] 33)).setCell ⟨w4.heap.size, 0, none⟩ (.slice oa v7.K oc)).setCell ⟨w4.heap.size, 1, none⟩ (.slice fa nf fc)) (w.heap.size + 1) (.slice v20.oa v20.K v20.oc) (.slice v20.fa v20.nf v20.fc) (.int .i64 v20.c) (.int .i64 v20.B) (.slice v20.na v20.N v20.nc) (.slice v20.pa v20.N v20.pc) (.slice v20.qa v20.M v20.qc)) P v20 t' ∧ Same v v20 ∧ Below w.heap.size w (set7 (((w16.alloc (.cells #[.slice oa v7.K oc, .slice fa nf fc] 33)).setCell ⟨w4.heap.size, 0, none⟩ (.slice oa v7.K oc)).setCell ⟨w4.heap.size, 1, none⟩ (.slice fa nf fc)) (w.heap.size + 1) (.slice v20.oa v20.K v20.oc) (.slice v20.fa v20.nf v20.fc) (.int .i64 v20.c) (.int .i64 v20.B) (.slice v20.na v20.N v20.nc) (.slice v20.pa v20.N v20.pc) (.slice v20.qa v20.M v20.qc)) from ⟨H18.resq b19, by rw [ev20]; exact SM7.out, set7_below BW18 (Nat.le_refl _) (by omega) _ _ _ _ _ _ _⟩)
      unfold set7 at FIN
      have es20 : Hid ((.agg #[.slice oa v7.K oc, .slice fa nf fc, .int .i64 v7.c, .int .i64 v7.B, .slice (some ⟨g11, 0, none⟩) (v.N - 1) c11, .slice (some ⟨g14, 0, none⟩) (v.N - 1) c14, .slice a8 N8 c8] : Value) = (.agg #[.slice v20.oa v20.K v20.oc, .slice v20.fa v20.nf v20.fc, .int .i64 v20.c, .int .i64 v20.B, .slice v20.na v20.N v20.nc, .slice v20.pa v20.N v20.pc, .slice v20.qa v20.M v20.qc])) := Lib.hid (by rw [ev20])
      rw [ev20] at FIN
      have EV20 := Lib.hid ev20
      obtain ⟨y0, y1, y2, y3, y4, y5, y6, k0, k1, -, -, -, -, -⟩ := Q17
      dsimp only [Rv.opens] at y0 y1 y2 y3 y6
      obtain ⟨z0, z1, z2, z3, z4, z5, z6, j0, j1, j2, j3, j4, j5, j6⟩ := R17
      have m1 : ¬ w16.heap.size = w4.heap.size := by omega
      have m2 : ¬ w4.heap.size = w16.heap.size := by omega
      have m3 : ¬ w4.heap.size = w.heap.size + 1 := by omega
      have m4 : ¬ w.heap.size + 1 = w4.heap.size := by omega
      clear rp16 b16 hQ P16 bv lt16 l4 b18 nv N18 P18 O18 H18 BW18 b19 ev20 HGv HN15 HP15 HO15 HU15 HQ15 HR15 HBW HRS0 SZ15 L4 R10 R11 R13' R14' E12 E15 E9 ea eb cu1 cu2 pu1 pu2 a9 a10 aA' pA' pa12 pa13 tf4 tc4 qf5 qc5 u0 u1 tc6 tf6 hwr
      go_wp2
      refine bodyPost_ret (v := .tuple #[.agg #[.slice oa v7.K oc, .slice fa nf fc, .int .i64 v7.c, .int .i64 v7.B, .slice (some ⟨g11, 0, none⟩) (v.N - 1) c11, .slice (some ⟨g14, 0, none⟩) (v.N - 1) c14, .slice a8 N8 c8], .int .i64 0]) (by simp [results, Try.results34, go_sem, z0, z1, z2, z3, z4, z5, z6]) rfl ?_
      exact ⟨v20, by rw [← es20.out], by rw [EV20.out]; exact FIN.out⟩
    · rw [if_neg hu] at EF
      have du : decide ((0 : Int) < ((Pg.usedN Y : Nat) : Int)) = true := by simp; omega
      have b8 := set7_but (t0 := .slice v7.oa v7.K v7.oc) (t1 := .slice v7.fa v7.nf v7.fc) (t2 := .int .i64 v7.c) (t3 := .int .i64 v7.B) (t4 := .slice v7.na v7.N v7.nc) (t5 := .slice v7.pa v7.N v7.pc) (t6 := .slice v7.qa v7.M v7.qc) (w4.alloc (.cells #[.slice v7.oa v7.K v7.oc, .slice v7.fa v7.nf v7.fc, .int .i64 v7.c, .int .i64 v7.B, .slice v7.na v7.N v7.nc, .slice v7.pa v7.N v7.pc, .slice v7.qa v7.M v7.qc] 36)) (w.heap.size + 1)
      have FIN := Lib.hid (show Rs (set7 (w4.alloc (.cells #[.slice v7.oa v7.K v7.oc, .slice v7.fa v7.nf v7.fc, .int .i64 v7.c, .int .i64 v7.B, .slice v7.na v7.N v7.nc, .slice v7.pa v7.N v7.pc, .slice v7.qa v7.M v7.qc] 36)) (w.heap.size + 1) (.slice v7.oa v7.K v7.oc) (.slice v7.fa v7.nf v7.fc) (.int .i64 v7.c) (.int .i64 v7.B) (.slice v7.na v7.N v7.nc) (.slice v7.pa v7.N v7.pc) (.slice v7.qa v7.M v7.qc)) P v7 t' ∧ Same v v7 ∧ Below w.heap.size w (set7 (w4.alloc (.cells #[.slice v7.oa v7.K v7.oc, .slice v7.fa v7.nf v7.fc, .int .i64 v7.c, .int .i64 v7.B, .slice v7.na v7.N v7.nc, .slice v7.pa v7.N v7.pc, .slice v7.qa v7.M v7.qc] 36)) (w.heap.size + 1) (.slice v7.oa v7.K v7.oc) (.slice v7.fa v7.nf v7.fc) (.int .i64 v7.c) (.int .i64 v7.B) (.slice v7.na v7.N v7.nc) (.slice v7.pa v7.N v7.pc) (.slice v7.qa v7.M v7.qc)) from ⟨by rw [← EF]; exact H7.out.resq b8, SM7.out, set7_below T7.out.below (Nat.le_refl _) (by omega) _ _ _ _ _ _ _⟩)
      unfold set7 at FIN
      have fr := T7.out.r
      obtain ⟨z0, z1, z2, z3, z4, z5, z6, j0, j1, j2, j3, j4, j5, j6⟩ := fr
      have m3 : ¬ w4.heap.size = w.heap.size + 1 := by have := T7.out.l; omega
      have m4 : ¬ w.heap.size + 1 = w4.heap.size := by have := T7.out.l; omega
      clear b8 H7 T7 I7
      generalize ((Pg.usedN Y : Nat) : Int) = un at HU du
      go_wp2_with fail
      refine HU.out.mono ?_
      rintro e wz ⟨rfl, rfl⟩
      clear HU
      go_wp2
      refine bodyPost_ret (v := .tuple #[(.agg #[.slice v7.oa v7.K v7.oc, .slice v7.fa v7.nf v7.fc, .int .i64 v7.c, .int .i64 v7.B, .slice v7.na v7.N v7.nc, .slice v7.pa v7.N v7.pc, .slice v7.qa v7.M v7.qc]), .int .i64 0]) (by simp [results, Try.results34, go_sem, z0, z1, z2, z3, z4, z5, z6]) rfl ?_
      exact ⟨v7, rfl, FIN.out⟩
end
end Go.Proofs.Ytijkigibcpgciaa.Sh
