import Derived.Test.YtijkigibcpgciaaZShRefFresh
import Derived.Test.YtijkigibcpgciaaZShTake
/-
  The document's own answers for package shelf: Take.
-/
namespace Go.Proofs.Ytijkigibcpgciaa.Sh
open Go.ChangeShapes Go.WideShapes Go.ChangeAt Go.RowKit Go.Deep
set_option maxRecDepth 100000

/-- Three variables of the call's: the second one its result, the third one the shelf vt. -/
structure T3 (w W : World) (vt : Rv) : Prop where
  t : Bs W (w.heap.size + 1 + 1) vt
  r : B7 W (w.heap.size + 1) (.slice none 0 0) (.slice none 0 0) (.int .i64 0) (.int .i64 0) (.slice none 0 0) (.slice none 0 0) (.slice none 0 0)
  below : Below w.heap.size w W
  sz : w.heap.size + 3 ≤ W.heap.size
/-- All but the result and the shelf. -/
def L2 (P : Nat → Prop) (w : World) : Nat → Prop := Less (Less P (w.heap.size + 1)) (w.heap.size + 1 + 1)
section
variable {w W W' : World} {P : Nat → Prop} {v vt : Rv} {s t : Shl}
theorem T3.on (h : T3 w W vt) (hb : Below W.heap.size W W') : T3 w W' vt := ⟨B7.below h.t hb, h.r.below hb, belowT h.below hb, Nat.le_trans h.sz hb.size⟩
theorem T3.new (w : World) (v : Rv) : T3 w (((w.alloc (.cells #[.slice v.oa v.K v.oc, .slice v.fa v.nf v.fc, .int .i64 v.c, .int .i64 v.B, .slice v.na v.N v.nc, .slice v.pa v.N v.pc, .slice v.qa v.M v.qc] 36)).alloc (.cells #[.slice none 0 0, .slice none 0 0, .int .i64 0, .int .i64 0, .slice none 0 0, .slice none 0 0, .slice none 0 0] 36)).alloc (.cells #[.slice v.oa v.K v.oc, .slice v.fa v.nf v.fc, .int .i64 v.c, .int .i64 v.B, .slice v.na v.N v.nc, .slice v.pa v.N v.pc, .slice v.qa v.M v.qc] 36)) v := by
  have T0 := (Two.new w v).on (below1 _ (.cells #[.slice v.oa v.K v.oc, .slice v.fa v.nf v.fc, .int .i64 v.c, .int .i64 v.B, .slice v.na v.N v.nc, .slice v.pa v.N v.pc, .slice v.qa v.M v.qc] 36))
  refine ⟨?_, T0.r, T0.below, by simp⟩
  have := B7.new ((w.alloc (.cells #[.slice v.oa v.K v.oc, .slice v.fa v.nf v.fc, .int .i64 v.c, .int .i64 v.B, .slice v.na v.N v.nc, .slice v.pa v.N v.pc, .slice v.qa v.M v.qc] 36)).alloc (.cells #[.slice none 0 0, .slice none 0 0, .int .i64 0, .int .i64 0, .slice none 0 0, .slice none 0 0, .slice none 0 0] 36)) (.slice v.oa v.K v.oc) (.slice v.fa v.nf v.fc) (.int .i64 v.c) (.int .i64 v.B) (.slice v.na v.N v.nc) (.slice v.pa v.N v.pc) (.slice v.qa v.M v.qc) 36
  unfold Bs
  simpa using this
theorem T3.set (h : T3 w W vt) (v' : Rv) : T3 w (set7 W (w.heap.size + 1 + 1) (.slice v'.oa v'.K v'.oc) (.slice v'.fa v'.nf v'.fc) (.int .i64 v'.c) (.int .i64 v'.B) (.slice v'.na v'.N v'.nc) (.slice v'.pa v'.N v'.pc) (.slice v'.qa v'.M v'.qc)) v' ∧ But (· = w.heap.size + 1 + 1) W (set7 W (w.heap.size + 1 + 1) (.slice v'.oa v'.K v'.oc) (.slice v'.fa v'.nf v'.fc) (.int .i64 v'.c) (.int .i64 v'.B) (.slice v'.na v'.N v'.nc) (.slice v'.pa v'.N v'.pc) (.slice v'.qa v'.M v'.qc)) := by
  have hb := set7_but (t0 := .slice v'.oa v'.K v'.oc) (t1 := .slice v'.fa v'.nf v'.fc) (t2 := .int .i64 v'.c) (t3 := .int .i64 v'.B) (t4 := .slice v'.na v'.N v'.nc) (t5 := .slice v'.pa v'.N v'.pc) (t6 := .slice v'.qa v'.M v'.qc) W (w.heap.size + 1 + 1)
  refine ⟨⟨B7.set h.t, h.r.but hb (fun e => by omega), h.below.trans (hb.one h.below.size (by omega)), Nat.le_trans h.sz hb.size⟩, hb⟩
theorem L2_up (up : Up w P) (hs : w.heap.size + 3 ≤ W.heap.size) : Up W (L2 P w) := fun k hk => ⟨⟨up k (by omega), by omega⟩, by omega⟩
theorem Rs.two (h : Rs w P v s) : Rs w (L2 P w) v s := (h.less (by omega)).less (by omega)
theorem Rs.var (h : Rs W (L2 P w) v s) (hb : But (· = w.heap.size + 1 + 1) W W') : Rs W' (L2 P w) v s := h.but (hb.mono fun _ _ e p => p.2 e)
theorem Rs.res (h : Rs W (L2 P w) v s) (hb : But (· = w.heap.size + 1) W W') : Rs W' P v s := (h.but (hb.mono fun _ _ e p => p.1.2 e)).swap fun _ _ p => p.1.1
end
section
variable {w : World} {P : Nat → Prop} {v : Rv} {s : Shl}
set_option maxHeartbeats 4000000 in
theorem refTake_open (h : Rs w P v s) (up : Up w P) (hnd : (nums s.ps).Nodup) (hno : s.op.Nodup) (hN : v.N ≤ 1024) (hM : v.M ≤ 1024) (o : Int) (h0 : 0 ≤ o) (ho : o ≤ 9223372036854775807) {n : Int} {r : List Int} (hop' : s.op = n :: r) {X : List Int} (hx : (n, X) ∈ s.ps) (hX5 : X.length ≤ 512) {y' : Nat} (hhi : Pg.holeOf X = (y' : Int)) :
    Calls Try.prog 33 #[(.agg #[.slice v.oa v.K v.oc, .slice v.fa v.nf v.fc, .int .i64 v.c, .int .i64 v.B, .slice v.na v.N v.nc, .slice v.pa v.N v.pc, .slice v.qa v.M v.qc]), .int .i64 o] w (RsEnds P v (fillS s n o X) (fun u => .tuple #[u, .int .i64 n, .int .i64 (y' : Int), .int .i64 0]) w) := by
  obtain ⟨t, rfl⟩ : ∃ t, t = s := ⟨_, rfl⟩
  obtain ⟨vt, evt⟩ : ∃ vt, vt = v := ⟨_, rfl⟩
  have HCC : Hid (∀ (w2 : World) (g cap : Nat), Ints w2 w2.heap.size (some ⟨g, 0, none⟩) X.length X → Calls Try.prog 59 #[.slice (some ⟨g, 0, none⟩) X.length cap, .int .i64 o] w2 (Pg.RefP3 X.length g (Pg.takeX X o) (Pg.takeA X o) (Pg.takeE X o) w2)) := Lib.hid fun w2 g cap hI => Pg.refTake_any (c := cap) hI hX5 o ho
  have OL := Lib.hid (Pg.take_len (X := X) o)
  obtain ⟨t', et'⟩ : ∃ t', t' = fillS t n o X := ⟨_, rfl⟩
  rw [← et']
  have EF : (⟨t.O, t.fl, setP t.ps n (Pg.takeX X o), if Pg.holeOf (Pg.takeX X o) = -1 then t.op.erase n else t.op⟩ : Shl) = t' := by rw [et']; rfl
  rw [(Pg.take_at h0 hhi).2.1, (Pg.take_at h0 hhi).2.2] at HCC
  generalize Pg.takeX X o = Y at HCC OL EF
  clear et'
  generalize (y' : Int) = y at HCC ⊢
  have T0 := T3.new w v
  have hop := Lib.hid hop'
  have hX := Lib.hid hx
  have ND := Lib.hid hnd
  have NO := Lib.hid hno
  have UP := Lib.hid up
  have HT1 : Hid (T3 w (((w.alloc (.cells #[.slice v.oa v.K v.oc, .slice v.fa v.nf v.fc, .int .i64 v.c, .int .i64 v.B, .slice v.na v.N v.nc, .slice v.pa v.N v.pc, .slice v.qa v.M v.qc] 36)).alloc (.cells #[.slice none 0 0, .slice none 0 0, .int .i64 0, .int .i64 0, .slice none 0 0, .slice none 0 0, .slice none 0 0] 36)).alloc (.cells #[.slice v.oa v.K v.oc, .slice v.fa v.nf v.fc, .int .i64 v.c, .int .i64 v.B, .slice v.na v.N v.nc, .slice v.pa v.N v.pc, .slice v.qa v.M v.qc] 36)) vt) := Lib.hid (by rw [evt]; exact T0)
  have HR1 : Hid (Rs (((w.alloc (.cells #[.slice v.oa v.K v.oc, .slice v.fa v.nf v.fc, .int .i64 v.c, .int .i64 v.B, .slice v.na v.N v.nc, .slice v.pa v.N v.pc, .slice v.qa v.M v.qc] 36)).alloc (.cells #[.slice none 0 0, .slice none 0 0, .int .i64 0, .int .i64 0, .slice none 0 0, .slice none 0 0, .slice none 0 0] 36)).alloc (.cells #[.slice v.oa v.K v.oc, .slice v.fa v.nf v.fc, .int .i64 v.c, .int .i64 v.B, .slice v.na v.N v.nc, .slice v.pa v.N v.pc, .slice v.qa v.M v.qc] 36)) (L2 P w) vt t) := Lib.hid (by rw [evt]; exact h.two.on T0.below)
  have UP1 := Lib.hid (L2_up up HT1.out.sz)
  have NN : Hid (vt.N ≤ 100000) := Lib.hid (by rw [evt]; omega)
  have MM : Hid (vt.M ≤ 100000) := Lib.hid (by rw [evt]; omega)
  have SV : Hid (∀ g4 c4, Same v (vt.rows g4 c4)) := Lib.hid (fun _ _ => by rw [evt]; exact ⟨rfl, rfl, rfl⟩)
  have d1 : decide (o < 0) = false := by simp; omega
  have hle : t.op.length = vt.M := by rw [evt]; exact h.opM.symm
  have d2 : ((vt.M : Int) == 0) = false := by rw [← hle, hop']; simp; omega
  clear h up hnd hno hN hM h0 ho hop' hx hX5 hhi T0 hle
  subst evt
  obtain ⟨b6, o6, ea6, hb6, hc6⟩ := HR1.out.op.ints.head (by rw [HR1.out.opM, hop.out]; simp)
  have hc6 := hc6 0 n (by rw [hop.out]; rfl)
  rw [Nat.add_zero] at hc6
  obtain ⟨i, hi, hin, hil⟩ := mem_idx hX.out
  have hiN : i < vt.N := by rw [HR1.out.numN]; exact hil
  have hM1 : 0 < vt.M := by rw [HR1.out.opM, hop.out]; simp
  have HF := Lib.hid (refFind_at vt HR1.out.nums.ints hin ND.out)
  have hidx : ∀ u : World, (Instr.indexAt 31 (.slice vt.qa vt.M vt.qc) (.int .i64 0)).run Try.prog u = .ok (.pointer (some ⟨b6, o6, none⟩)) u := fun u => by rw [ea6]; go_simp
  have tt := HT1.out.t
  unfold Bs at tt
  obtain ⟨x0, x1, x2, x3, x4, x5, x6, -, -, -, -, -, -, -⟩ := tt
  have x6' := x6
  rw [ea6] at x6'
  have HI := Lib.hid hi
  have EA6 := Lib.hid ea6
  clear ea6 hb6 hi hin hil
  go_enter Try.func33, Try.ntmps33
  go_wp2_with fail
  refine HF.out.mono ?_
  rintro e w2 ⟨rfl, b2⟩
  have H2 := Lib.hid (HR1.out.on b2)
  have T2 := Lib.hid (HT1.out.on b2)
  have U2 := Lib.hid (UP1.out.on b2.size)
  obtain ⟨b, oo, g, cap, ea, hc, hI, pg, h1, hbl⟩ := H2.out.at_ HI.out
  have c5 := T2.out.t.c5
  rw [ea] at c5
  have HC := Lib.hid (HCC.out w2 g cap hI)
  have PG := Lib.hid pg
  have L1 := Lib.hid h1
  clear b2 hI hbl pg h1 ea HF hc6 x0 x1 x2 x3 x4 x5 x6 x6' HR1 HT1 UP1
  generalize hlX : X.length = lx at hc HC L1 OL
  clear hlX
  go_wp2_with fail
  refine HC.out.mono ?_
  rintro e w3 ⟨g3, c3, rfl, s3, q3, b3⟩
  have T3' := Lib.hid (T2.out.on b3)
  have H3 := Lib.hid (H2.out.on b3)
  have U3 := Lib.hid (U2.out.on b3.size)
  have R3 : Hid (Row w3 (L2 P w) (.slice (some ⟨g3, 0, none⟩) lx c3) Y) := Lib.hid ⟨g3, c3, by rw [OL.out], by rw [OL.out]; exact s3, by
    rcases q3 with q | q
    · rw [q]; exact PG.out
    · exact U2.out g3 q, by rw [OL.out]; exact L1.out⟩
  obtain ⟨rs, p3, hrs⟩ := H3.out.pages
  have HW := Lib.hid (refWith_any vt p3 NN.out U3.out i hiN R3.out)
  have HRS := Lib.hid hrs
  have IY := Lib.hid (show Ints w3 w3.heap.size (some ⟨g3, 0, none⟩) lx Y from s3)
  have G3 : Hid (L2 P w g3) := Lib.hid (by
    rcases q3 with q | q
    · rw [q]; exact PG.out
    · exact U2.out g3 q)
  have T3a := T3'.out.t
  unfold Bs at T3a
  obtain ⟨y0, y1, y2, y3, y4, y5, y6, -, -, -, -, -, -, -⟩ := T3a
  clear s3 q3 b3 p3 hrs T2 H2 U2 HC c5 hc R3 U3
  go_wp2_with fail
  refine HW.out.mono ?_
  rintro e w4 ⟨g4, c4, rfl, p4, b4⟩
  obtain ⟨v', ev⟩ : ∃ v', v' = vt.rows g4 c4 := ⟨_, rfl⟩
  have H4 : Rs w4 (L2 P w) v' ⟨t.O, t.fl, setP t.ps n Y, t.op⟩ := by rw [ev]; exact (H3.out.on b4).rows ND.out HI.out HRS.out p4
  have T4 := T3'.out.on b4
  obtain ⟨T5, b5⟩ := T4.set v'
  have H5 := H4.var b5
  have I5 : Ints (set7 w4 (w.heap.size + 1 + 1) (.slice v'.oa v'.K v'.oc) (.slice v'.fa v'.nf v'.fc) (.int .i64 v'.c) (.int .i64 v'.B) (.slice v'.na v'.N v'.nc) (.slice v'.pa v'.N v'.pc) (.slice v'.qa v'.M v'.qc)) (set7 w4 (w.heap.size + 1 + 1) (.slice v'.oa v'.K v'.oc) (.slice v'.fa v'.nf v'.fc) (.int .i64 v'.c) (.int .i64 v'.B) (.slice v'.na v'.N v'.nc) (.slice v'.pa v'.N v'.pc) (.slice v'.qa v'.M v'.qc)).heap.size (some ⟨g3, 0, none⟩) lx Y := ((IY.out.on b4).butAt b5 (Nat.le_refl _) (fun e => G3.out.2 e)).more b5.size
  have es : (.agg #[.slice vt.oa vt.K vt.oc, .slice vt.fa vt.nf vt.fc, .int .i64 vt.c, .int .i64 vt.B, .slice vt.na vt.N vt.nc, .slice (some ⟨g4, 0, none⟩) vt.N c4, .slice vt.qa vt.M vt.qc] : Value) = (.agg #[.slice v'.oa v'.K v'.oc, .slice v'.fa v'.nf v'.fc, .int .i64 v'.c, .int .i64 v'.B, .slice v'.na v'.N v'.nc, .slice v'.pa v'.N v'.pc, .slice v'.qa v'.M v'.qc]) := by rw [ev]; rfl
  rw [es]
  have HH := Lib.hid (Pg.refHole_any (c := c3) I5)
  have SM : Hid (Same vt v') := Lib.hid (by rw [ev]; exact SV.out g4 c4)
  have M' : v'.M = vt.M := by rw [ev]; rfl
  have HMM : Hid (v'.M ≤ 100000) := Lib.hid (by rw [M']; exact MM.out)
  have U5 : Up (set7 w4 (w.heap.size + 1 + 1) (.slice v'.oa v'.K v'.oc) (.slice v'.fa v'.nf v'.fc) (.int .i64 v'.c) (.int .i64 v'.B) (.slice v'.na v'.N v'.nc) (.slice v'.pa v'.N v'.pc) (.slice v'.qa v'.M v'.qc)) (L2 P w) := L2_up UP.out T5.sz
  have T4t := T4.t
  have T4r := T4.r
  unfold Bs at T4t
  obtain ⟨y0, y1, y2, y3, y4, y5, y6, k0, k1, k2, k3, k4, k5, k6⟩ := T4t
  obtain ⟨z0, z1, z2, z3, z4, z5, z6, j0, j1, j2, j3, j4, j5, j6⟩ := T4r
  have H5' := Lib.hid H5
  have T5' := Lib.hid T5
  have U5' := Lib.hid U5
  clear es p4 b4 T4 b5 H4 ev HW I5 H5 T5 U5 M' IY G3 H3 T3'
  by_cases hf : Pg.holeOf Y = -1
  · rw [hf] at HH
    have HWo := Lib.hid (refWithout_any H5'.out.op HMM.out U5'.out n)
    have ER : Hid (t.op.filter (· != n) = t.op.erase n) := Lib.hid (NO.out.erase_eq_filter n).symm
    rw [if_pos hf] at EF
    unfold set7 at HH HWo
    go_wp2_with fail
    refine HH.out.mono ?_
    rintro e wz ⟨rfl, rfl⟩
    go_wp2_with fail
    refine HWo.out.mono ?_
    rintro e w6 ⟨a6, N6, c6, rfl, p6, b6⟩
    have b6' : Below (set7 w4 (w.heap.size + 1 + 1) (.slice v'.oa v'.K v'.oc) (.slice v'.fa v'.nf v'.fc) (.int .i64 v'.c) (.int .i64 v'.B) (.slice v'.na v'.N v'.nc) (.slice v'.pa v'.N v'.pc) (.slice v'.qa v'.M v'.qc)).heap.size (set7 w4 (w.heap.size + 1 + 1) (.slice v'.oa v'.K v'.oc) (.slice v'.fa v'.nf v'.fc) (.int .i64 v'.c) (.int .i64 v'.B) (.slice v'.na v'.N v'.nc) (.slice v'.pa v'.N v'.pc) (.slice v'.qa v'.M v'.qc)) w6 := b6
    have T6 := T5'.out.on b6'
    have b7 := cell_but w6 (w.heap.size + 1 + 1) 6 (.slice a6 N6 c6)
    obtain ⟨v2, ev2⟩ : ∃ v2 : Rv, v2 = ⟨v'.oa, v'.K, v'.oc, v'.fa, v'.nf, v'.fc, v'.c, v'.B, v'.na, v'.N, v'.nc, v'.pa, v'.pc, a6, N6, c6⟩ := ⟨_, rfl⟩
    have H6 := H5'.out.on b6'
    have H7 : Rs (w6.setCell ⟨w.heap.size + 1 + 1, 6, none⟩ (.slice a6 N6 c6)) (L2 P w) v2 ⟨t.O, t.fl, setP t.ps n Y, t.op.erase n⟩ := by
      have q : Rs w6 (L2 P w) v2 ⟨t.O, t.fl, setP t.ps n Y, t.op.erase n⟩ := by
        rw [ev2]
        exact ⟨H6.pool, H6.nums, H6.pages, by rw [← ER.out]; exact p6⟩
      exact q.var b7
    have BW7 : Below w.heap.size w (w6.setCell ⟨w.heap.size + 1 + 1, 6, none⟩ (.slice a6 N6 c6)) := T6.below.trans (b7.one T6.below.size (by omega))
    have b8 := set7_but (t0 := .slice v2.oa v2.K v2.oc) (t1 := .slice v2.fa v2.nf v2.fc) (t2 := .int .i64 v2.c) (t3 := .int .i64 v2.B) (t4 := .slice v2.na v2.N v2.nc) (t5 := .slice v2.pa v2.N v2.pc) (t6 := .slice v2.qa v2.M v2.qc) (w6.setCell ⟨w.heap.size + 1 + 1, 6, none⟩ (.slice a6 N6 c6)) (w.heap.size + 1)
    have FIN := Lib.hid (show Rs (set7 (w6.setCell ⟨w.heap.size + 1 + 1, 6, none⟩ (.slice a6 N6 c6)) (w.heap.size + 1) (.slice v2.oa v2.K v2.oc) (.slice v2.fa v2.nf v2.fc) (.int .i64 v2.c) (.int .i64 v2.B) (.slice v2.na v2.N v2.nc) (.slice v2.pa v2.N v2.pc) (.slice v2.qa v2.M v2.qc)) P v2 ⟨t.O, t.fl, setP t.ps n Y, t.op.erase n⟩ ∧ Same vt v2 ∧ Below w.heap.size w (set7 (w6.setCell ⟨w.heap.size + 1 + 1, 6, none⟩ (.slice a6 N6 c6)) (w.heap.size + 1) (.slice v2.oa v2.K v2.oc) (.slice v2.fa v2.nf v2.fc) (.int .i64 v2.c) (.int .i64 v2.B) (.slice v2.na v2.N v2.nc) (.slice v2.pa v2.N v2.pc) (.slice v2.qa v2.M v2.qc)) from ⟨H7.res b8, by rw [ev2]; exact SM.out, set7_below BW7 (Nat.le_refl _) (by omega) _ _ _ _ _ _ _⟩)
    unfold set7 at FIN
    rw [EF] at FIN
    have es2 : Hid ((.agg #[.slice v'.oa v'.K v'.oc, .slice v'.fa v'.nf v'.fc, .int .i64 v'.c, .int .i64 v'.B, .slice v'.na v'.N v'.nc, .slice v'.pa v'.N v'.pc, .slice a6 N6 c6] : Value) = (.agg #[.slice v2.oa v2.K v2.oc, .slice v2.fa v2.nf v2.fc, .int .i64 v2.c, .int .i64 v2.B, .slice v2.na v2.N v2.nc, .slice v2.pa v2.N v2.pc, .slice v2.qa v2.M v2.qc])) := Lib.hid (by rw [ev2])
    rw [ev2] at FIN
    have EV2 := Lib.hid ev2
    have T6t := T6.t
    have T6r := T6.r
    unfold Bs at T6t
    clear y0 y1 y2 y3 y4 y5 y6 k0 k1 k2 k3 k4 k5 k6 z0 z1 z2 z3 z4 z5 z6 j0 j1 j2 j3 j4 j5 j6
    obtain ⟨y0, y1, y2, y3, y4, y5, y6, k0, k1, k2, k3, k4, k5, k6⟩ := T6t
    obtain ⟨z0, z1, z2, z3, z4, z5, z6, j0, j1, j2, j3, j4, j5, j6⟩ := T6r
    clear b6 b6' T6 b7 H6 H7 BW7 b8 p6 ev2 HH HWo H5' T5' U5' hf ER
    go_wp2
    refine bodyPost_ret (v := .tuple #[.agg #[.slice v'.oa v'.K v'.oc, .slice v'.fa v'.nf v'.fc, .int .i64 v'.c, .int .i64 v'.B, .slice v'.na v'.N v'.nc, .slice v'.pa v'.N v'.pc, .slice a6 N6 c6], .int .i64 n, .int .i64 y, .int .i64 0]) (by simp [results, Try.results33, go_sem, z0, z1, z2, z3, z4, z5, z6]) rfl ?_
    exact ⟨v2, by rw [← es2.out], by rw [EV2.out]; exact FIN.out⟩
  · have hge : decide (Pg.holeOf Y < 0) = false := by
      rcases Pg.hole_cases Y with ⟨q, _⟩ | ⟨z, q, _⟩
      · exact absurd q hf
      · simp; omega
    rw [if_neg hf] at EF
    have b8 := set7_but (t0 := .slice v'.oa v'.K v'.oc) (t1 := .slice v'.fa v'.nf v'.fc) (t2 := .int .i64 v'.c) (t3 := .int .i64 v'.B) (t4 := .slice v'.na v'.N v'.nc) (t5 := .slice v'.pa v'.N v'.pc) (t6 := .slice v'.qa v'.M v'.qc) (set7 w4 (w.heap.size + 1 + 1) (.slice v'.oa v'.K v'.oc) (.slice v'.fa v'.nf v'.fc) (.int .i64 v'.c) (.int .i64 v'.B) (.slice v'.na v'.N v'.nc) (.slice v'.pa v'.N v'.pc) (.slice v'.qa v'.M v'.qc)) (w.heap.size + 1)
    have FIN := Lib.hid (show Rs (set7 (set7 w4 (w.heap.size + 1 + 1) (.slice v'.oa v'.K v'.oc) (.slice v'.fa v'.nf v'.fc) (.int .i64 v'.c) (.int .i64 v'.B) (.slice v'.na v'.N v'.nc) (.slice v'.pa v'.N v'.pc) (.slice v'.qa v'.M v'.qc)) (w.heap.size + 1) (.slice v'.oa v'.K v'.oc) (.slice v'.fa v'.nf v'.fc) (.int .i64 v'.c) (.int .i64 v'.B) (.slice v'.na v'.N v'.nc) (.slice v'.pa v'.N v'.pc) (.slice v'.qa v'.M v'.qc)) P v' ⟨t.O, t.fl, setP t.ps n Y, t.op⟩ ∧ Same vt v' ∧ Below w.heap.size w (set7 (set7 w4 (w.heap.size + 1 + 1) (.slice v'.oa v'.K v'.oc) (.slice v'.fa v'.nf v'.fc) (.int .i64 v'.c) (.int .i64 v'.B) (.slice v'.na v'.N v'.nc) (.slice v'.pa v'.N v'.pc) (.slice v'.qa v'.M v'.qc)) (w.heap.size + 1) (.slice v'.oa v'.K v'.oc) (.slice v'.fa v'.nf v'.fc) (.int .i64 v'.c) (.int .i64 v'.B) (.slice v'.na v'.N v'.nc) (.slice v'.pa v'.N v'.pc) (.slice v'.qa v'.M v'.qc)) from ⟨H5'.out.res b8, SM.out, set7_below T5'.out.below (Nat.le_refl _) (by omega) _ _ _ _ _ _ _⟩)
    rw [EF] at FIN
    unfold set7 at FIN HH
    generalize Pg.holeOf Y = hz at HH hge
    clear b8 H5' T5' U5' hf
    go_wp2_with fail
    refine HH.out.mono ?_
    rintro e wz ⟨rfl, rfl⟩
    clear HH
    go_wp2
    refine bodyPost_ret (v := .tuple #[(.agg #[.slice v'.oa v'.K v'.oc, .slice v'.fa v'.nf v'.fc, .int .i64 v'.c, .int .i64 v'.B, .slice v'.na v'.N v'.nc, .slice v'.pa v'.N v'.pc, .slice v'.qa v'.M v'.qc]), .int .i64 n, .int .i64 y, .int .i64 0]) (by simp [results, Try.results33, go_sem, z0, z1, z2, z3, z4, z5, z6]) rfl ?_
    exact ⟨v', rfl, FIN.out⟩
set_option maxHeartbeats 4000000 in
theorem refTake_grow (h : Rs w P v s) (up : Up w P) (hw : Pl.Pw v.K s.O s.fl) (hK : v.K ≤ 1024) (hN : v.N ≤ 1000) (c0 : 0 ≤ v.c) (c1 : v.c ≤ 9223372036854775807) {B : Nat} (hB : v.B = (B : Int)) (hB1 : 1 ≤ B) (hB2 : B ≤ 512) (o : Int) (h0 : 0 ≤ o) (ho : o ≤ 9223372036854775807) {k : Nat} {r : List Int} (hop0 : s.op = []) (hfl : s.fl = (k : Int) :: r) (hnd' : (nums (s.ps ++ [((k : Int), List.replicate B (-1))])).Nodup) :
    Calls Try.prog 33 #[(.agg #[.slice v.oa v.K v.oc, .slice v.fa v.nf v.fc, .int .i64 v.c, .int .i64 v.B, .slice v.na v.N v.nc, .slice v.pa v.N v.pc, .slice v.qa v.M v.qc]), .int .i64 o] w (RsEnds P v (fillS ⟨s.O.set k v.c, r, s.ps ++ [((k : Int), List.replicate B (-1))], (k : Int) :: s.op⟩ (k : Int) o (List.replicate B (-1))) (fun u => .tuple #[u, .int .i64 (k : Int), .int .i64 ((0 : Nat) : Int), .int .i64 0]) w) := by
  obtain ⟨n, nk⟩ : ∃ n : Int, n = (k : Int) := ⟨_, rfl⟩
  obtain ⟨X, eX⟩ : ∃ X : List Int, X = List.replicate B (-1) := ⟨_, rfl⟩
  obtain ⟨t, et⟩ : ∃ t : Shl, t = ⟨s.O.set k v.c, r, s.ps ++ [((k : Int), List.replicate B (-1))], (k : Int) :: s.op⟩ := ⟨_, rfl⟩
  have T0 := T3.new w v
  have hA := h.two.on T0.below
  have HFr := Lib.hid (refFresh_ok hA (L2_up up T0.sz) hw hK (by omega) (by rw [h.opM, hop0]; simp) c0 c1 hB hB1 hB2 hfl)
  have hx : (n, X) ∈ t.ps := by rw [et, nk, eX]; exact List.mem_append_right _ (by simp)
  have hhi : Pg.holeOf X = ((0 : Nat) : Int) := by rw [eX]; exact Pg.hole_at (by rw [List.length_replicate]; omega) (by unfold Pg.ow; rw [List.getElem?_replicate]; split <;> rfl) (fun j hj => by omega)
  have hX5 : X.length ≤ 512 := by rw [eX, List.length_replicate]; exact hB2
  have hop' : t.op = n :: [] := by rw [et, nk, hop0]
  have hnd : (nums t.ps).Nodup := by rw [et]; exact hnd'
  have hno : t.op.Nodup := by rw [hop']; simp
  have lps : t.ps.length ≤ 1024 := by rw [et, List.length_append, ← h.numN]; simp; omega
  rw [← et] at HFr
  rw [← et, ← nk, ← eX]
  have HCC : Hid (∀ (w2 : World) (g cap : Nat), Ints w2 w2.heap.size (some ⟨g, 0, none⟩) X.length X → Calls Try.prog 59 #[.slice (some ⟨g, 0, none⟩) X.length cap, .int .i64 o] w2 (Pg.RefP3 X.length g (Pg.takeX X o) (Pg.takeA X o) (Pg.takeE X o) w2)) := Lib.hid fun w2 g cap hI => Pg.refTake_any (c := cap) hI hX5 o ho
  have OL := Lib.hid (Pg.take_len (X := X) o)
  obtain ⟨t', et'⟩ : ∃ t', t' = fillS t n o X := ⟨_, rfl⟩
  rw [← et']
  have EF : (⟨t.O, t.fl, setP t.ps n (Pg.takeX X o), if Pg.holeOf (Pg.takeX X o) = -1 then t.op.erase n else t.op⟩ : Shl) = t' := by rw [et']; rfl
  rw [(Pg.take_at h0 hhi).2.1, (Pg.take_at h0 hhi).2.2] at HCC
  generalize Pg.takeX X o = Y at HCC OL EF
  clear et'
  generalize ((0 : Nat) : Int) = y at HCC ⊢
  have hop := Lib.hid hop'
  have hX := Lib.hid hx
  have ND := Lib.hid hnd
  have NO := Lib.hid hno
  have UP := Lib.hid up
  have LP := Lib.hid lps
  have HT0 := Lib.hid T0
  have d1 : decide (o < 0) = false := by simp; omega
  have hM0 : v.M = 0 := by rw [h.opM, hop0]; rfl
  have d2 : ((v.M : Int) == 0) = true := by rw [hM0]; rfl
  clear h up hw hK hN c0 c1 hB hB1 hB2 h0 ho hop0 hfl hnd' hA hx hhi hX5 hop' hnd hno T0 nk eX et lps hM0
  go_enter Try.func33, Try.ntmps33
  go_wp2_with fail
  refine HFr.out.mono ?_
  rintro e w1 ⟨vt, rfl, q1, sm1, b1⟩
  have Hb := q1.on (below1 w1 (.cells #[.slice vt.oa vt.K vt.oc, .slice vt.fa vt.nf vt.fc, .int .i64 vt.c, .int .i64 vt.B, .slice vt.na vt.N vt.nc, .slice vt.pa vt.N vt.pc, .slice vt.qa vt.M vt.qc] 36))
  have Tb : T3 w (w1.alloc (.cells #[.slice vt.oa vt.K vt.oc, .slice vt.fa vt.nf vt.fc, .int .i64 vt.c, .int .i64 vt.B, .slice vt.na vt.N vt.nc, .slice vt.pa vt.N vt.pc, .slice vt.qa vt.M vt.qc] 36)) v := (HT0.out.on b1).on (below1 w1 (.cells #[.slice vt.oa vt.K vt.oc, .slice vt.fa vt.nf vt.fc, .int .i64 vt.c, .int .i64 vt.B, .slice vt.na vt.N vt.nc, .slice vt.pa vt.N vt.pc, .slice vt.qa vt.M vt.qc] 36))
  obtain ⟨Tc, bc⟩ := Tb.set vt
  have HT1 := Lib.hid Tc
  have HR1 := Lib.hid (Hb.var bc)
  have UP1 := Lib.hid (L2_up UP.out Tc.sz)
  have NN : Hid (vt.N ≤ 100000) := Lib.hid (by rw [Hb.numN]; have := LP.out; omega)
  have MM : Hid (vt.M ≤ 100000) := Lib.hid (by rw [Hb.opM, hop.out]; simp)
  have SV : Hid (∀ g4 c4, Same v (vt.rows g4 c4)) := Lib.hid (fun _ _ => sm1)
  obtain ⟨b6, o6, ea6, hb6, hc6⟩ := Hb.op.ints.head (by rw [Hb.opM, hop.out]; simp)
  have hc6 := hc6 0 n (by rw [hop.out]; rfl)
  rw [Nat.add_zero] at hc6
  obtain ⟨i, hi, hin, hil⟩ := mem_idx hX.out
  have hiN : i < vt.N := by rw [HR1.out.numN]; exact hil
  have hM1 : 0 < vt.M := by rw [HR1.out.opM, hop.out]; simp
  have HF := Lib.hid (refFind_at vt HR1.out.nums.ints hin ND.out)
  have hidx : ∀ u : World, (Instr.indexAt 31 (.slice vt.qa vt.M vt.qc) (.int .i64 0)).run Try.prog u = .ok (.pointer (some ⟨b6, o6, none⟩)) u := fun u => by rw [ea6]; go_simp
  have nb : ¬ b6 = w.heap.size + 1 + 1 := by
    obtain ⟨b', o', e', p'⟩ := Hb.op.blk (by rw [Hb.opM, hop.out]; simp)
    rw [ea6] at e'
    injection e' with e'
    injection e' with e1 e2
    rw [e1]
    exact p'.2
  have nb' : ¬ w.heap.size + 1 + 1 = b6 := fun e => nb e.symm
  unfold set7 at HF
  have tt := Tb.t
  unfold Bs at tt
  obtain ⟨x0, x1, x2, x3, x4, x5, x6, k0, k1, k2, k3, k4, k5, k6⟩ := tt
  have HI := Lib.hid hi
  have EA6 := Lib.hid ea6
  have lt1 : ¬ w1.heap.size = w.heap.size + 1 + 1 := by have := (HT0.out.on b1).sz; omega
  have lt1' : ¬ w.heap.size + 1 + 1 = w1.heap.size := by have := (HT0.out.on b1).sz; omega
  clear ea6 hb6 hi hin hil q1 sm1 b1 Hb Tb Tc bc HT0 HFr LP
  go_wp2_with fail
  refine HF.out.mono ?_
  rintro e w2 ⟨rfl, b2⟩
  have H2 := Lib.hid (HR1.out.on b2)
  have T2 := Lib.hid (HT1.out.on b2)
  have U2 := Lib.hid (UP1.out.on b2.size)
  obtain ⟨b, oo, g, cap, ea, hc, hI, pg, h1, hbl⟩ := H2.out.at_ HI.out
  have c5 := T2.out.t.c5
  rw [ea] at c5
  have HC := Lib.hid (HCC.out w2 g cap hI)
  have PG := Lib.hid pg
  have L1 := Lib.hid h1
  clear b2 hI hbl pg h1 ea HF hc6 x0 x1 x2 x3 x4 x5 x6 HR1 HT1 UP1 k0 k1 k2 k3 k4 k5 k6 lt1 lt1'
  generalize hlX : X.length = lx at hc HC L1 OL
  clear hlX
  go_wp2_with fail
  refine HC.out.mono ?_
  rintro e w3 ⟨g3, c3, rfl, s3, q3, b3⟩
  have T3' := Lib.hid (T2.out.on b3)
  have H3 := Lib.hid (H2.out.on b3)
  have U3 := Lib.hid (U2.out.on b3.size)
  have R3 : Hid (Row w3 (L2 P w) (.slice (some ⟨g3, 0, none⟩) lx c3) Y) := Lib.hid ⟨g3, c3, by rw [OL.out], by rw [OL.out]; exact s3, by
    rcases q3 with q | q
    · rw [q]; exact PG.out
    · exact U2.out g3 q, by rw [OL.out]; exact L1.out⟩
  obtain ⟨rs, p3, hrs⟩ := H3.out.pages
  have HW := Lib.hid (refWith_any vt p3 NN.out U3.out i hiN R3.out)
  have HRS := Lib.hid hrs
  have IY := Lib.hid (show Ints w3 w3.heap.size (some ⟨g3, 0, none⟩) lx Y from s3)
  have G3 : Hid (L2 P w g3) := Lib.hid (by
    rcases q3 with q | q
    · rw [q]; exact PG.out
    · exact U2.out g3 q)
  have T3a := T3'.out.t
  unfold Bs at T3a
  obtain ⟨y0, y1, y2, y3, y4, y5, y6, -, -, -, -, -, -, -⟩ := T3a
  clear s3 q3 b3 p3 hrs T2 H2 U2 HC c5 hc R3 U3
  go_wp2_with fail
  refine HW.out.mono ?_
  rintro e w4 ⟨g4, c4, rfl, p4, b4⟩
  obtain ⟨v', ev⟩ : ∃ v', v' = vt.rows g4 c4 := ⟨_, rfl⟩
  have H4 : Rs w4 (L2 P w) v' ⟨t.O, t.fl, setP t.ps n Y, t.op⟩ := by rw [ev]; exact (H3.out.on b4).rows ND.out HI.out HRS.out p4
  have T4 := T3'.out.on b4
  obtain ⟨T5, b5⟩ := T4.set v'
  have H5 := H4.var b5
  have I5 : Ints (set7 w4 (w.heap.size + 1 + 1) (.slice v'.oa v'.K v'.oc) (.slice v'.fa v'.nf v'.fc) (.int .i64 v'.c) (.int .i64 v'.B) (.slice v'.na v'.N v'.nc) (.slice v'.pa v'.N v'.pc) (.slice v'.qa v'.M v'.qc)) (set7 w4 (w.heap.size + 1 + 1) (.slice v'.oa v'.K v'.oc) (.slice v'.fa v'.nf v'.fc) (.int .i64 v'.c) (.int .i64 v'.B) (.slice v'.na v'.N v'.nc) (.slice v'.pa v'.N v'.pc) (.slice v'.qa v'.M v'.qc)).heap.size (some ⟨g3, 0, none⟩) lx Y := ((IY.out.on b4).butAt b5 (Nat.le_refl _) (fun e => G3.out.2 e)).more b5.size
  have es : (.agg #[.slice vt.oa vt.K vt.oc, .slice vt.fa vt.nf vt.fc, .int .i64 vt.c, .int .i64 vt.B, .slice vt.na vt.N vt.nc, .slice (some ⟨g4, 0, none⟩) vt.N c4, .slice vt.qa vt.M vt.qc] : Value) = (.agg #[.slice v'.oa v'.K v'.oc, .slice v'.fa v'.nf v'.fc, .int .i64 v'.c, .int .i64 v'.B, .slice v'.na v'.N v'.nc, .slice v'.pa v'.N v'.pc, .slice v'.qa v'.M v'.qc]) := by rw [ev]; rfl
  rw [es]
  have HH := Lib.hid (Pg.refHole_any (c := c3) I5)
  have SM : Hid (Same v v') := Lib.hid (by rw [ev]; exact SV.out g4 c4)
  have M' : v'.M = vt.M := by rw [ev]; rfl
  have HMM : Hid (v'.M ≤ 100000) := Lib.hid (by rw [M']; exact MM.out)
  have U5 : Up (set7 w4 (w.heap.size + 1 + 1) (.slice v'.oa v'.K v'.oc) (.slice v'.fa v'.nf v'.fc) (.int .i64 v'.c) (.int .i64 v'.B) (.slice v'.na v'.N v'.nc) (.slice v'.pa v'.N v'.pc) (.slice v'.qa v'.M v'.qc)) (L2 P w) := L2_up UP.out T5.sz
  have T4t := T4.t
  have T4r := T4.r
  unfold Bs at T4t
  obtain ⟨y0, y1, y2, y3, y4, y5, y6, k0, k1, k2, k3, k4, k5, k6⟩ := T4t
  obtain ⟨z0, z1, z2, z3, z4, z5, z6, j0, j1, j2, j3, j4, j5, j6⟩ := T4r
  have H5' := Lib.hid H5
  have T5' := Lib.hid T5
  have U5' := Lib.hid U5
  clear es p4 b4 T4 b5 H4 ev HW I5 H5 T5 U5 M' IY G3 H3 T3'
  by_cases hf : Pg.holeOf Y = -1
  · rw [hf] at HH
    have HWo := Lib.hid (refWithout_any H5'.out.op HMM.out U5'.out n)
    have ER : Hid (t.op.filter (· != n) = t.op.erase n) := Lib.hid (NO.out.erase_eq_filter n).symm
    rw [if_pos hf] at EF
    unfold set7 at HH HWo
    go_wp2_with fail
    refine HH.out.mono ?_
    rintro e wz ⟨rfl, rfl⟩
    go_wp2_with fail
    refine HWo.out.mono ?_
    rintro e w6 ⟨a6, N6, c6, rfl, p6, b6⟩
    have b6' : Below (set7 w4 (w.heap.size + 1 + 1) (.slice v'.oa v'.K v'.oc) (.slice v'.fa v'.nf v'.fc) (.int .i64 v'.c) (.int .i64 v'.B) (.slice v'.na v'.N v'.nc) (.slice v'.pa v'.N v'.pc) (.slice v'.qa v'.M v'.qc)).heap.size (set7 w4 (w.heap.size + 1 + 1) (.slice v'.oa v'.K v'.oc) (.slice v'.fa v'.nf v'.fc) (.int .i64 v'.c) (.int .i64 v'.B) (.slice v'.na v'.N v'.nc) (.slice v'.pa v'.N v'.pc) (.slice v'.qa v'.M v'.qc)) w6 := b6
    have T6 := T5'.out.on b6'
    have b7 := cell_but w6 (w.heap.size + 1 + 1) 6 (.slice a6 N6 c6)
    obtain ⟨v2, ev2⟩ : ∃ v2 : Rv, v2 = ⟨v'.oa, v'.K, v'.oc, v'.fa, v'.nf, v'.fc, v'.c, v'.B, v'.na, v'.N, v'.nc, v'.pa, v'.pc, a6, N6, c6⟩ := ⟨_, rfl⟩
    have H6 := H5'.out.on b6'
    have H7 : Rs (w6.setCell ⟨w.heap.size + 1 + 1, 6, none⟩ (.slice a6 N6 c6)) (L2 P w) v2 ⟨t.O, t.fl, setP t.ps n Y, t.op.erase n⟩ := by
      have q : Rs w6 (L2 P w) v2 ⟨t.O, t.fl, setP t.ps n Y, t.op.erase n⟩ := by
        rw [ev2]
        exact ⟨H6.pool, H6.nums, H6.pages, by rw [← ER.out]; exact p6⟩
      exact q.var b7
    have BW7 : Below w.heap.size w (w6.setCell ⟨w.heap.size + 1 + 1, 6, none⟩ (.slice a6 N6 c6)) := T6.below.trans (b7.one T6.below.size (by omega))
    have b8 := set7_but (t0 := .slice v2.oa v2.K v2.oc) (t1 := .slice v2.fa v2.nf v2.fc) (t2 := .int .i64 v2.c) (t3 := .int .i64 v2.B) (t4 := .slice v2.na v2.N v2.nc) (t5 := .slice v2.pa v2.N v2.pc) (t6 := .slice v2.qa v2.M v2.qc) (w6.setCell ⟨w.heap.size + 1 + 1, 6, none⟩ (.slice a6 N6 c6)) (w.heap.size + 1)
    have FIN := Lib.hid (show Rs (set7 (w6.setCell ⟨w.heap.size + 1 + 1, 6, none⟩ (.slice a6 N6 c6)) (w.heap.size + 1) (.slice v2.oa v2.K v2.oc) (.slice v2.fa v2.nf v2.fc) (.int .i64 v2.c) (.int .i64 v2.B) (.slice v2.na v2.N v2.nc) (.slice v2.pa v2.N v2.pc) (.slice v2.qa v2.M v2.qc)) P v2 ⟨t.O, t.fl, setP t.ps n Y, t.op.erase n⟩ ∧ Same v v2 ∧ Below w.heap.size w (set7 (w6.setCell ⟨w.heap.size + 1 + 1, 6, none⟩ (.slice a6 N6 c6)) (w.heap.size + 1) (.slice v2.oa v2.K v2.oc) (.slice v2.fa v2.nf v2.fc) (.int .i64 v2.c) (.int .i64 v2.B) (.slice v2.na v2.N v2.nc) (.slice v2.pa v2.N v2.pc) (.slice v2.qa v2.M v2.qc)) from ⟨H7.res b8, by rw [ev2]; exact SM.out, set7_below BW7 (Nat.le_refl _) (by omega) _ _ _ _ _ _ _⟩)
    unfold set7 at FIN
    rw [EF] at FIN
    have es2 : Hid ((.agg #[.slice v'.oa v'.K v'.oc, .slice v'.fa v'.nf v'.fc, .int .i64 v'.c, .int .i64 v'.B, .slice v'.na v'.N v'.nc, .slice v'.pa v'.N v'.pc, .slice a6 N6 c6] : Value) = (.agg #[.slice v2.oa v2.K v2.oc, .slice v2.fa v2.nf v2.fc, .int .i64 v2.c, .int .i64 v2.B, .slice v2.na v2.N v2.nc, .slice v2.pa v2.N v2.pc, .slice v2.qa v2.M v2.qc])) := Lib.hid (by rw [ev2])
    rw [ev2] at FIN
    have EV2 := Lib.hid ev2
    have T6t := T6.t
    have T6r := T6.r
    unfold Bs at T6t
    clear y0 y1 y2 y3 y4 y5 y6 k0 k1 k2 k3 k4 k5 k6 z0 z1 z2 z3 z4 z5 z6 j0 j1 j2 j3 j4 j5 j6
    obtain ⟨y0, y1, y2, y3, y4, y5, y6, k0, k1, k2, k3, k4, k5, k6⟩ := T6t
    obtain ⟨z0, z1, z2, z3, z4, z5, z6, j0, j1, j2, j3, j4, j5, j6⟩ := T6r
    clear b6 b6' T6 b7 H6 H7 BW7 b8 p6 ev2 HH HWo H5' T5' U5' hf ER
    go_wp2
    refine bodyPost_ret (v := .tuple #[.agg #[.slice v'.oa v'.K v'.oc, .slice v'.fa v'.nf v'.fc, .int .i64 v'.c, .int .i64 v'.B, .slice v'.na v'.N v'.nc, .slice v'.pa v'.N v'.pc, .slice a6 N6 c6], .int .i64 n, .int .i64 y, .int .i64 0]) (by simp [results, Try.results33, go_sem, z0, z1, z2, z3, z4, z5, z6]) rfl ?_
    exact ⟨v2, by rw [← es2.out], by rw [EV2.out]; exact FIN.out⟩
  · have hge : decide (Pg.holeOf Y < 0) = false := by
      rcases Pg.hole_cases Y with ⟨q, _⟩ | ⟨z, q, _⟩
      · exact absurd q hf
      · simp; omega
    rw [if_neg hf] at EF
    have b8 := set7_but (t0 := .slice v'.oa v'.K v'.oc) (t1 := .slice v'.fa v'.nf v'.fc) (t2 := .int .i64 v'.c) (t3 := .int .i64 v'.B) (t4 := .slice v'.na v'.N v'.nc) (t5 := .slice v'.pa v'.N v'.pc) (t6 := .slice v'.qa v'.M v'.qc) (set7 w4 (w.heap.size + 1 + 1) (.slice v'.oa v'.K v'.oc) (.slice v'.fa v'.nf v'.fc) (.int .i64 v'.c) (.int .i64 v'.B) (.slice v'.na v'.N v'.nc) (.slice v'.pa v'.N v'.pc) (.slice v'.qa v'.M v'.qc)) (w.heap.size + 1)
    have FIN := Lib.hid (show Rs (set7 (set7 w4 (w.heap.size + 1 + 1) (.slice v'.oa v'.K v'.oc) (.slice v'.fa v'.nf v'.fc) (.int .i64 v'.c) (.int .i64 v'.B) (.slice v'.na v'.N v'.nc) (.slice v'.pa v'.N v'.pc) (.slice v'.qa v'.M v'.qc)) (w.heap.size + 1) (.slice v'.oa v'.K v'.oc) (.slice v'.fa v'.nf v'.fc) (.int .i64 v'.c) (.int .i64 v'.B) (.slice v'.na v'.N v'.nc) (.slice v'.pa v'.N v'.pc) (.slice v'.qa v'.M v'.qc)) P v' ⟨t.O, t.fl, setP t.ps n Y, t.op⟩ ∧ Same v v' ∧ Below w.heap.size w (set7 (set7 w4 (w.heap.size + 1 + 1) (.slice v'.oa v'.K v'.oc) (.slice v'.fa v'.nf v'.fc) (.int .i64 v'.c) (.int .i64 v'.B) (.slice v'.na v'.N v'.nc) (.slice v'.pa v'.N v'.pc) (.slice v'.qa v'.M v'.qc)) (w.heap.size + 1) (.slice v'.oa v'.K v'.oc) (.slice v'.fa v'.nf v'.fc) (.int .i64 v'.c) (.int .i64 v'.B) (.slice v'.na v'.N v'.nc) (.slice v'.pa v'.N v'.pc) (.slice v'.qa v'.M v'.qc)) from ⟨H5'.out.res b8, SM.out, set7_below T5'.out.below (Nat.le_refl _) (by omega) _ _ _ _ _ _ _⟩)
    rw [EF] at FIN
    unfold set7 at FIN HH
    generalize Pg.holeOf Y = hz at HH hge
    clear b8 H5' T5' U5' hf
    go_wp2_with fail
    refine HH.out.mono ?_
    rintro e wz ⟨rfl, rfl⟩
    clear HH
    go_wp2
    refine bodyPost_ret (v := .tuple #[(.agg #[.slice v'.oa v'.K v'.oc, .slice v'.fa v'.nf v'.fc, .int .i64 v'.c, .int .i64 v'.B, .slice v'.na v'.N v'.nc, .slice v'.pa v'.N v'.pc, .slice v'.qa v'.M v'.qc]), .int .i64 n, .int .i64 y, .int .i64 0]) (by simp [results, Try.results33, go_sem, z0, z1, z2, z3, z4, z5, z6]) rfl ?_
    exact ⟨v', rfl, FIN.out⟩
set_option maxHeartbeats 1000000 in
theorem refTake_neg (h : Rs w P v s) (o : Int) (ho : o < 0) :
    Calls Try.prog 33 #[(.agg #[.slice v.oa v.K v.oc, .slice v.fa v.nf v.fc, .int .i64 v.c, .int .i64 v.B, .slice v.na v.N v.nc, .slice v.pa v.N v.pc, .slice v.qa v.M v.qc]), .int .i64 o] w (RsEnds P v s (fun u => .tuple #[u, .int .i64 0, .int .i64 0, .int .i64 1]) w) := by
  have T2 := Two.new w v
  have d1 : decide (o < 0) = true := by simpa using ho
  have HR := Lib.hid h
  have T2a := T2.a
  have T2r := T2.r
  unfold Bs at T2a
  obtain ⟨x0, x1, x2, x3, x4, x5, x6, -, -, -, -, -, -, -⟩ := T2a
  obtain ⟨z0, z1, z2, z3, z4, z5, z6, g0, g1, g2, g3, g4, g5, g6⟩ := T2r
  clear T2 h ho
  go_enter Try.func33, Try.ntmps33
  go_wp2
  refine bodyPost_ret (v := .tuple #[(.agg #[.slice v.oa v.K v.oc, .slice v.fa v.nf v.fc, .int .i64 v.c, .int .i64 v.B, .slice v.na v.N v.nc, .slice v.pa v.N v.pc, .slice v.qa v.M v.qc]), .int .i64 0, .int .i64 0, .int .i64 1]) (by simp [results, Try.results33, go_sem]) rfl ?_
  exact ⟨v, rfl, HR.out.on (below2 w _ _), ⟨rfl, rfl, rfl⟩, below2 w _ _⟩
set_option maxHeartbeats 1000000 in
theorem refTake_out (h : Rs w P v s) (hw : Pl.Pw v.K s.O s.fl) (hK : v.K ≤ 1024) (c0 : 0 ≤ v.c) (c1 : v.c ≤ 9223372036854775807) (o : Int) (h0 : 0 ≤ o) (hop0 : s.op = []) (hfl : s.fl = []) :
    Calls Try.prog 33 #[(.agg #[.slice v.oa v.K v.oc, .slice v.fa v.nf v.fc, .int .i64 v.c, .int .i64 v.B, .slice v.na v.N v.nc, .slice v.pa v.N v.pc, .slice v.qa v.M v.qc]), .int .i64 o] w (RsEnds P v s (fun u => .tuple #[u, .int .i64 0, .int .i64 0, .int .i64 5]) w) := by
  have T0 := (Two.new w v).on (below1 _ (.cells #[.slice v.oa v.K v.oc, .slice v.fa v.nf v.fc, .int .i64 v.c, .int .i64 v.B, .slice v.na v.N v.nc, .slice v.pa v.N v.pc, .slice v.qa v.M v.qc] 36))
  have hA := h.on T0.below
  have HFr := Lib.hid (refFresh_no hA hw hK c0 c1 hfl)
  have HT := Lib.hid T0
  have HR := Lib.hid h
  have d1 : decide (o < 0) = false := by simp; omega
  have hM0 : v.M = 0 := by rw [h.opM, hop0]; rfl
  have d2 : ((v.M : Int) == 0) = true := by rw [hM0]; rfl
  clear h hw hK c0 c1 h0 hop0 hfl hA T0 hM0
  go_enter Try.func33, Try.ntmps33
  go_wp2_with fail
  refine HFr.out.mono ?_
  rintro e w1 ⟨vt, rfl, q1, sm1, b1⟩
  have T2 := (HT.out.on b1).on (below1 w1 (.cells #[.slice vt.oa vt.K vt.oc, .slice vt.fa vt.nf vt.fc, .int .i64 vt.c, .int .i64 vt.B, .slice vt.na vt.N vt.nc, .slice vt.pa vt.N vt.pc, .slice vt.qa vt.M vt.qc] 36))
  have lt2 := (HT.out.on b1).r.lt
  have n1 : ¬ w.heap.size + 1 = w1.heap.size := by omega
  have n2 : ¬ w1.heap.size = w.heap.size + 1 := by omega
  have FIN : Hid (Below w.heap.size w (set7 (w1.alloc (.cells #[.slice vt.oa vt.K vt.oc, .slice vt.fa vt.nf vt.fc, .int .i64 vt.c, .int .i64 vt.B, .slice vt.na vt.N vt.nc, .slice vt.pa vt.N vt.pc, .slice vt.qa vt.M vt.qc] 36)) (w.heap.size + 1) (.slice v.oa v.K v.oc) (.slice v.fa v.nf v.fc) (.int .i64 v.c) (.int .i64 v.B) (.slice v.na v.N v.nc) (.slice v.pa v.N v.pc) (.slice v.qa v.M v.qc))) := Lib.hid (set7_below T2.below (Nat.le_refl _) (by omega) _ _ _ _ _ _ _)
  unfold set7 at FIN
  have T2a := T2.a
  have T2r := T2.r
  unfold Bs at T2a
  obtain ⟨x0, x1, x2, x3, x4, x5, x6, -, -, -, -, -, -, -⟩ := T2a
  obtain ⟨z0, z1, z2, z3, z4, z5, z6, g0, g1, g2, g3, g4, g5, g6⟩ := T2r
  clear T2 HT HFr lt2 q1 sm1 b1
  go_wp2
  refine bodyPost_ret (v := .tuple #[(.agg #[.slice v.oa v.K v.oc, .slice v.fa v.nf v.fc, .int .i64 v.c, .int .i64 v.B, .slice v.na v.N v.nc, .slice v.pa v.N v.pc, .slice v.qa v.M v.qc]), .int .i64 0, .int .i64 0, .int .i64 5]) (by simp [results, Try.results33, go_sem, z0, z1, z2, z3, z4, z5, z6]) rfl ?_
  exact ⟨v, rfl, HR.out.on FIN.out, ⟨rfl, rfl, rfl⟩, FIN.out⟩
theorem refTake_any (h : Rs w P v s) (up : Up w P) {K B : Nat} (hs : Sw K v.c B s) (hKv : v.K = K) (hK : K ≤ 1000) (hB : v.B = (B : Int)) (hB1 : 1 ≤ B) (hB2 : B ≤ 512) (o : Int) (ho : o ≤ 9223372036854775807) :
    Calls Try.prog 33 #[(.agg #[.slice v.oa v.K v.oc, .slice v.fa v.nf v.fc, .int .i64 v.c, .int .i64 v.B, .slice v.na v.N v.nc, .slice v.pa v.N v.pc, .slice v.qa v.M v.qc]), .int .i64 o] w (RsEnds P v (takeOut v.c B s o).1 (fun u => .tuple #[u, .int .i64 (takeOut v.c B s o).2.1, .int .i64 (takeOut v.c B s o).2.2.1, .int .i64 (takeOut v.c B s o).2.2.2]) w) := by
  have hN : v.N ≤ 1000 := by rw [h.numN]; exact Nat.le_trans hs.few hK
  have hM : v.M ≤ 1000 := by rw [h.opM]; exact Nat.le_trans hs.op_few hK
  have hpw : Pl.Pw v.K s.O s.fl := by rw [hKv]; exact hs.pool
  unfold takeOut
  by_cases h0 : o < 0
  · rw [if_pos h0]
    exact refTake_neg h o h0
  · rw [if_neg h0]
    by_cases hn : s.op = [] ∧ s.fl = []
    · rw [if_pos hn]
      exact refTake_out h hpw (by omega) hs.c0 hs.c1 o (by omega) hn.1 hn.2
    · rw [if_neg hn]
      by_cases hop : s.op = []
      · rw [if_pos hop]
        cases hfl : s.fl with
        | nil => exact absurd ⟨hop, hfl⟩ hn
        | cons y r =>
          obtain ⟨k, rfl, _⟩ := hs.pool.lt (x := y) (by rw [hfl]; simp)
          obtain ⟨g1, _, g3⟩ := hs.grow hfl hB1
          have := refTake_grow h up hpw (by omega) hN hs.c0 hs.c1 hB hB1 hB2 o (by omega) ho hop hfl g3.nod
          have e : growS v.c B s = ⟨s.O.set k v.c, r, s.ps ++ [((k : Int), List.replicate B (-1))], (k : Int) :: s.op⟩ := by unfold growS; rw [hfl]; rfl
          have e2 : (growS v.c B s).op.headD (-1) = (k : Int) := by rw [e]; rfl
          have e3 : pageAt (growS v.c B s) (k : Int) = List.replicate B (-1) := by
            unfold pageAt
            rw [e, mem_get g3.nod (X := List.replicate B (-1)) (List.mem_append_right _ (by simp))]
            rfl
          have hhi : Pg.holeOf (List.replicate B (-1)) = ((0 : Nat) : Int) := Pg.hole_at (by rw [List.length_replicate]; omega) (by unfold Pg.ow; rw [List.getElem?_replicate]; split <;> rfl) (fun j hj => by omega)
          simp only [e2, e3]
          rw [(Pg.take_at (by omega) hhi).2.1, e]
          exact this
      · rw [if_neg hop]
        obtain ⟨n, r, e⟩ : ∃ n r, s.op = n :: r := by
          cases q : s.op with
          | nil => exact absurd q hop
          | cons n r => exact ⟨n, r, rfl⟩
        obtain ⟨X, hX, hh⟩ := (hs.opm n).1 (by rw [e]; simp)
        obtain ⟨i, hi⟩ : ∃ i : Nat, Pg.holeOf X = (i : Int) := by
          rcases Pg.hole_cases X with ⟨q, _⟩ | ⟨j, q, _⟩
          · exact absurd q hh
          · exact ⟨j, q⟩
        have := refTake_open h up hs.nod hs.opn (by omega) (by omega) o (by omega) ho e hX (by rw [hs.len _ _ hX]; exact hB2) hi
        have e2 : s.op.headD (-1) = n := by rw [e]; rfl
        have e3 : pageAt s n = X := by unfold pageAt; rw [mem_get hs.nod hX]; rfl
        simp only [e2, e3]
        rw [(Pg.take_at (by omega) hi).2.1]
        exact this
end
end Go.Proofs.Ytijkigibcpgciaa.Sh
