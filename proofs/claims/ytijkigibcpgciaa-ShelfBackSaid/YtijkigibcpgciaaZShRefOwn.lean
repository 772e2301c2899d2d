import Derived.Test.YtijkigibcpgciaaZShRefTell
/-
  The document's own answers for package shelf: Own.
-/
namespace Go.Proofs.Ytijkigibcpgciaa.Sh
open Go.ChangeShapes Go.WideShapes Go.ChangeAt Go.RowKit Go.Deep
set_option maxRecDepth 100000

/-- A block is let out of P. -/
def Less (P : Nat → Prop) (q : Nat) : Nat → Prop := fun k => P k ∧ k ≠ q
/-- What is the same in two shelves' values. -/
def Same (v v' : Rv) : Prop := v'.c = v.c ∧ v'.B = v.B ∧ v'.K = v.K
section
variable {w w' : World} {P : Nat → Prop} {v v' : Rv} {s s' : Shl} {q : Nat}
theorem Rs.less (h : Rs w P v s) (hq : w.heap.size ≤ q) : Rs w (Less P q) v s := h.swap fun k hk p => ⟨p, by omega⟩
theorem Up.less (h : Up w P) (hs : w.heap.size ≤ w'.heap.size) (hq : q < w'.heap.size) : Up w' (Less P q) := fun k hk => ⟨h k (by omega), by omega⟩
theorem Rs.fin (h : Rs w (Less P q) v s) (hb : But (· = q) w w') : Rs w' P v s := (h.but (hb.mono fun _ _ e p => p.2 e)).swap fun _ _ p => p.1
/-- How one of the document's acts ends: its shelf is s then. -/
def RsEnds (P : Nat → Prop) (v : Rv) (s : Shl) (f : Value → Value) (w : World) (e : Ending) (w' : World) : Prop := ∃ v' : Rv, e = .returned (f (.agg #[.slice v'.oa v'.K v'.oc, .slice v'.fa v'.nf v'.fc, .int .i64 v'.c, .int .i64 v'.B, .slice v'.na v'.N v'.nc, .slice v'.pa v'.N v'.pc, .slice v'.qa v'.M v'.qc])) ∧ Rs w' P v' s ∧ Same v v' ∧ Below w.heap.size w w'
/-- The result variable at the end. -/
theorem set7_below {B : Nat} {wA : World} (hb : Below B w wA) (hB : B ≤ w.heap.size) (hq : B ≤ q) (u0 u1 u2 u3 u4 u5 u6 : Value) : Below B w (set7 wA q u0 u1 u2 u3 u4 u5 u6) := hb.trans ((set7_but wA q).one (Nat.le_trans hB hb.size) hq)
/-- With another list of rows. -/
def Rv.rows (v : Rv) (g cap : Nat) : Rv := ⟨v.oa, v.K, v.oc, v.fa, v.nf, v.fc, v.c, v.B, v.na, v.N, v.nc, some ⟨g, 0, none⟩, cap, v.qa, v.M, v.qc⟩
end
theorem set_at {ps : Ps} {n : Int} {X Y : List Int} {i : Nat} (hn : (nums ps).Nodup) (hi : ps[i]? = some (n, X)) : ps.set i (n, Y) = setP ps n Y := by
  induction ps generalizing i with
  | nil => simp at hi
  | cons q r ih =>
    obtain ⟨m, Z⟩ := q
    obtain ⟨h1, h2⟩ := List.nodup_cons.1 hn
    cases i with
    | zero =>
      simp at hi
      obtain ⟨rfl, rfl⟩ := hi
      rw [set_cons_same h1]
      rfl
    | succ j =>
      simp at hi
      have hm : m ≠ n := fun e => h1 (by show m ∈ nums r; rw [e]; exact mem_nums (List.mem_of_getElem? hi))
      rw [set_cons_other hm, List.set_cons_succ, ih h2 hi]
theorem del_at {ps : Ps} {n : Int} {X : List Int} {i : Nat} (hn : (nums ps).Nodup) (hi : ps[i]? = some (n, X)) : ps.eraseIdx i = delP ps n := by
  induction ps generalizing i with
  | nil => simp at hi
  | cons q r ih =>
    obtain ⟨m, Z⟩ := q
    obtain ⟨h1, h2⟩ := List.nodup_cons.1 hn
    cases i with
    | zero =>
      simp at hi
      obtain ⟨rfl, rfl⟩ := hi
      rw [del_cons_same h1]
      rfl
    | succ j =>
      simp at hi
      have hm : m ≠ n := fun e => h1 (by show m ∈ nums r; rw [e]; exact mem_nums (List.mem_of_getElem? hi))
      rw [del_cons_other hm, List.eraseIdx_cons_succ, ih h2 hi]
section
variable {w w' : World} {P : Nat → Prop} {v : Rv} {s : Shl}
/-- The shelf behind 'with'. -/
theorem Rs.rows {g cap i : Nat} {n : Int} {X Y : List Int} {u : Value} {rs : List (Value × List Int)} (h : Rs w' P v s) (hn : (Sh.nums s.ps).Nodup) (hi : s.ps[i]? = some (n, X)) (hrs : rs.map (·.2) = s.ps.map (·.2)) (hp : Pp w' P (some ⟨g, 0, none⟩) v.N cap (rs.set i (u, Y))) : Rs w' P (v.rows g cap) ⟨s.O, s.fl, setP s.ps n Y, s.op⟩ := by
  refine ⟨h.pool, ?_, ⟨_, hp, ?_⟩, h.op⟩
  · have := h.nums
    show Ip w' P v.na v.N v.nc (Sh.nums (setP s.ps n Y))
    rw [nums_set]
    exact this
  · rw [← set_at hn hi, List.map_set, List.map_set, hrs]
end
section
variable {w : World} {P : Nat → Prop} {v : Rv} {s : Shl}
set_option maxHeartbeats 1000000 in
theorem refShOwn_no (h : Rs w P v s) (n k o : Int) (hg : getP s.ps n = none) :
    Calls Try.prog 35 #[(.agg #[.slice v.oa v.K v.oc, .slice v.fa v.nf v.fc, .int .i64 v.c, .int .i64 v.B, .slice v.na v.N v.nc, .slice v.pa v.N v.pc, .slice v.qa v.M v.qc]), .int .i64 n, .int .i64 k, .int .i64 o] w (RsEnds P v s (fun u => .tuple #[u, .int .i64 1]) w) := by
  have T0 := Two.new w v
  have HF := Lib.hid (refFind_no v (h.on T0.below).nums.ints (get_none.1 hg))
  have HT := Lib.hid T0
  have HR := Lib.hid h
  clear h hg T0
  go_enter Try.func35, Try.ntmps35
  go_wp2_with fail
  refine HF.out.mono ?_
  rintro e w2 ⟨rfl, b2⟩
  have T2 := HT.out.on b2
  have FIN : Hid (Below w.heap.size w (set7 w2 (w.heap.size + 1) (.slice v.oa v.K v.oc) (.slice v.fa v.nf v.fc) (.int .i64 v.c) (.int .i64 v.B) (.slice v.na v.N v.nc) (.slice v.pa v.N v.pc) (.slice v.qa v.M v.qc))) := Lib.hid (set7_below T2.below (Nat.le_refl _) (by omega) _ _ _ _ _ _ _)
  unfold set7 at FIN
  have T2a := T2.a
  have T2r := T2.r
  unfold Bs at T2a
  obtain ⟨x0, x1, x2, x3, x4, x5, x6, -, -, -, -, -, -, -⟩ := T2a
  obtain ⟨z0, z1, z2, z3, z4, z5, z6, g0, g1, g2, g3, g4, g5, g6⟩ := T2r
  clear b2 T2 HT HF
  go_wp2
  refine bodyPost_ret (v := .tuple #[(.agg #[.slice v.oa v.K v.oc, .slice v.fa v.nf v.fc, .int .i64 v.c, .int .i64 v.B, .slice v.na v.N v.nc, .slice v.pa v.N v.pc, .slice v.qa v.M v.qc]), .int .i64 1]) (by simp [results, Try.results35, go_sem, z0, z1, z2, z3, z4, z5, z6]) rfl ?_
  exact ⟨v, rfl, HR.out.on FIN.out, ⟨rfl, rfl, rfl⟩, FIN.out⟩
set_option maxHeartbeats 2000000 in
theorem refShOwn_at (h : Rs w P v s) (up : Up w P) (hnd : (nums s.ps).Nodup) (hN : v.N ≤ 1024) (n k o : Int) (ho : o ≤ 9223372036854775807) {i : Nat} {X : List Int} (hi : s.ps[i]? = some (n, X)) (hX : X.length ≤ 512) :
    Calls Try.prog 35 #[(.agg #[.slice v.oa v.K v.oc, .slice v.fa v.nf v.fc, .int .i64 v.c, .int .i64 v.B, .slice v.na v.N v.nc, .slice v.pa v.N v.pc, .slice v.qa v.M v.qc]), .int .i64 n, .int .i64 k, .int .i64 o] w (RsEnds P v ⟨s.O, s.fl, setP s.ps n (Pg.ownX X k o), s.op⟩ (fun u => .tuple #[u, .int .i64 (Pg.ownE X k o)]) w) := by
  have T0 := Two.new w v
  have szA : ((w.alloc (.cells #[.slice v.oa v.K v.oc, .slice v.fa v.nf v.fc, .int .i64 v.c, .int .i64 v.B, .slice v.na v.N v.nc, .slice v.pa v.N v.pc, .slice v.qa v.M v.qc] 36)).alloc (.cells #[.slice none 0 0, .slice none 0 0, .int .i64 0, .int .i64 0, .slice none 0 0, .slice none 0 0, .slice none 0 0] 36)).heap.size = w.heap.size + 2 := by simp
  have hA := (h.less (q := w.heap.size + 1) (by omega)).on T0.below
  have upA := up.less (q := w.heap.size + 1) T0.below.size (by omega)
  have hin : (nums s.ps)[i]? = some n := by unfold nums; rw [List.getElem?_map, hi]; rfl
  have hiN : i < v.N := by rw [h.numN]; exact (List.getElem?_eq_some_iff.1 hi).1
  have HF := Lib.hid (refFind_at v hA.nums.ints hin hnd)
  have HT := Lib.hid T0
  have HA := Lib.hid hA
  have UP := Lib.hid upA
  have HI := Lib.hid hi
  have HX := Lib.hid hX
  have ND := Lib.hid hnd
  have HO := Lib.hid ho
  have HCC : Hid (∀ (w2 : World) (g cap : Nat), Ints w2 w2.heap.size (some ⟨g, 0, none⟩) X.length X → Calls Try.prog 65 #[.slice (some ⟨g, 0, none⟩) X.length cap, .int .i64 k, .int .i64 o] w2 (Pg.RefP X.length g (Pg.ownX X k o) (Pg.ownE X k o) w2)) := Lib.hid fun w2 g cap hI => Pg.refOwn_any (c := cap) hI hX k o ho
  have OL := Lib.hid (Pg.own_len (X := X) k o)
  generalize Pg.ownE X k o = z at HCC ⊢
  generalize Pg.ownX X k o = Y at HCC OL ⊢
  clear h hi T0 hA upA up hin hX hnd szA ho
  go_enter Try.func35, Try.ntmps35
  go_wp2_with fail
  refine HF.out.mono ?_
  rintro e w2 ⟨rfl, b2⟩
  have T2 := Lib.hid (HT.out.on b2)
  have H2 := Lib.hid (HA.out.on b2)
  have U2 := Lib.hid (UP.out.on b2.size)
  obtain ⟨b, oo, g, cap, ea, hc, hI, pg, h1, hbl⟩ := H2.out.at_ HI.out
  have x5 := T2.out.a.c5
  rw [ea] at x5
  have HC := Lib.hid (HCC.out w2 g cap hI)
  have d1 : decide ((i : Int) < 0) = false := by simp
  have PG := Lib.hid pg
  have L1 := Lib.hid h1
  have EA := Lib.hid ea
  clear b2 HT HA UP HF hI hbl pg h1 ea
  clear HCC
  generalize hlX : X.length = lx at hc HC L1 OL
  clear hlX HX
  go_wp2_with fail
  refine HC.out.mono ?_
  rintro e w3 ⟨g3, c3, rfl, s3, q3, b3⟩
  have T3 := Lib.hid (T2.out.on b3)
  have H3 := Lib.hid (H2.out.on b3)
  have U3 := Lib.hid (U2.out.on b3.size)
  have R3 : Hid (Row w3 (Less P (w.heap.size + 1)) (.slice (some ⟨g3, 0, none⟩) lx c3) Y) := Lib.hid ⟨g3, c3, by rw [OL.out], by rw [OL.out]; exact s3, by
    rcases q3 with q | q
    · rw [q]; exact PG.out
    · exact U2.out g3 q, by rw [OL.out]; exact L1.out⟩
  obtain ⟨rs, p3, hrs⟩ := H3.out.pages
  have HW := Lib.hid (refWith_any v p3 (by omega) U3.out i hiN R3.out)
  have HRS := Lib.hid hrs
  have T3a := T3.out.a
  unfold Bs at T3a
  obtain ⟨y0, y1, y2, y3, y4, y5, y6, -, -, -, -, -, -, -⟩ := T3a
  have HTT := T3
  clear s3 q3 b3 p3 hrs T2 H2 U2 HC x5 hc R3 U3 T3
  go_wp2_with fail
  refine HW.out.mono ?_
  rintro e w4 ⟨g4, c4, rfl, p4, b4⟩
  obtain ⟨v', ev⟩ : ∃ v', v' = v.rows g4 c4 := ⟨_, rfl⟩
  have H4 : Hid (Rs w4 (Less P (w.heap.size + 1)) v' ⟨s.O, s.fl, setP s.ps n Y, s.op⟩) := Lib.hid (by rw [ev]; exact (H3.out.on b4).rows ND.out HI.out HRS.out p4)
  have T4 := HTT.out.on b4
  have SM : Hid (Same v v') := Lib.hid (by rw [ev]; exact ⟨rfl, rfl, rfl⟩)
  have es : (.agg #[.slice v.oa v.K v.oc, .slice v.fa v.nf v.fc, .int .i64 v.c, .int .i64 v.B, .slice v.na v.N v.nc, .slice (some ⟨g4, 0, none⟩) v.N c4, .slice v.qa v.M v.qc] : Value) = (.agg #[.slice v'.oa v'.K v'.oc, .slice v'.fa v'.nf v'.fc, .int .i64 v'.c, .int .i64 v'.B, .slice v'.na v'.N v'.nc, .slice v'.pa v'.N v'.pc, .slice v'.qa v'.M v'.qc]) := by rw [ev]; rfl
  rw [es]
  have T5 := T4.on (below1 w4 (.cells #[.slice v'.oa v'.K v'.oc, .slice v'.fa v'.nf v'.fc, .int .i64 v'.c, .int .i64 v'.B, .slice v'.na v'.N v'.nc, .slice v'.pa v'.N v'.pc, .slice v'.qa v'.M v'.qc] 36))
  have b5 := set7_but (t0 := .slice v'.oa v'.K v'.oc) (t1 := .slice v'.fa v'.nf v'.fc) (t2 := .int .i64 v'.c) (t3 := .int .i64 v'.B) (t4 := .slice v'.na v'.N v'.nc) (t5 := .slice v'.pa v'.N v'.pc) (t6 := .slice v'.qa v'.M v'.qc) (w4.alloc (.cells #[.slice v'.oa v'.K v'.oc, .slice v'.fa v'.nf v'.fc, .int .i64 v'.c, .int .i64 v'.B, .slice v'.na v'.N v'.nc, .slice v'.pa v'.N v'.pc, .slice v'.qa v'.M v'.qc] 36)) (w.heap.size + 1)
  have FIN := Lib.hid (show Rs (set7 (w4.alloc (.cells #[.slice v'.oa v'.K v'.oc, .slice v'.fa v'.nf v'.fc, .int .i64 v'.c, .int .i64 v'.B, .slice v'.na v'.N v'.nc, .slice v'.pa v'.N v'.pc, .slice v'.qa v'.M v'.qc] 36)) (w.heap.size + 1) (.slice v'.oa v'.K v'.oc) (.slice v'.fa v'.nf v'.fc) (.int .i64 v'.c) (.int .i64 v'.B) (.slice v'.na v'.N v'.nc) (.slice v'.pa v'.N v'.pc) (.slice v'.qa v'.M v'.qc)) P v' ⟨s.O, s.fl, setP s.ps n Y, s.op⟩ ∧ Same v v' ∧ Below w.heap.size w (set7 (w4.alloc (.cells #[.slice v'.oa v'.K v'.oc, .slice v'.fa v'.nf v'.fc, .int .i64 v'.c, .int .i64 v'.B, .slice v'.na v'.N v'.nc, .slice v'.pa v'.N v'.pc, .slice v'.qa v'.M v'.qc] 36)) (w.heap.size + 1) (.slice v'.oa v'.K v'.oc) (.slice v'.fa v'.nf v'.fc) (.int .i64 v'.c) (.int .i64 v'.B) (.slice v'.na v'.N v'.nc) (.slice v'.pa v'.N v'.pc) (.slice v'.qa v'.M v'.qc)) from ⟨(H4.out.on (below1 w4 (.cells #[.slice v'.oa v'.K v'.oc, .slice v'.fa v'.nf v'.fc, .int .i64 v'.c, .int .i64 v'.B, .slice v'.na v'.N v'.nc, .slice v'.pa v'.N v'.pc, .slice v'.qa v'.M v'.qc] 36))).fin b5, SM.out, set7_below T5.below (Nat.le_refl _) (by omega) _ _ _ _ _ _ _⟩)
  unfold set7 at FIN
  have T5r := T5.r
  obtain ⟨z0, z1, z2, z3, z4, z5, z6, g0, g1, g2, g3', g4', g5, g6⟩ := T5r
  have HL4 : ¬ w.heap.size + 1 = w4.heap.size := by have := T4.r.lt; omega
  have HL4' : ¬ w4.heap.size = w.heap.size + 1 := by have := T4.r.lt; omega
  clear es p4 b4 T4 T5 b5 H4 SM ev HW y0 y1 y2 y3 y4 y5 y6
  go_wp2
  refine bodyPost_ret (v := .tuple #[(.agg #[.slice v'.oa v'.K v'.oc, .slice v'.fa v'.nf v'.fc, .int .i64 v'.c, .int .i64 v'.B, .slice v'.na v'.N v'.nc, .slice v'.pa v'.N v'.pc, .slice v'.qa v'.M v'.qc]), .int .i64 z]) (by simp [results, Try.results35, go_sem, z0, z1, z2, z3, z4, z5, z6]) rfl ?_
  exact ⟨v', rfl, FIN.out⟩
theorem refShOwn_any (h : Rs w P v s) (up : Up w P) (hnd : (nums s.ps).Nodup) (hN : v.N ≤ 1024) (hl : ∀ n X, (n, X) ∈ s.ps → X.length ≤ 512) (n k o : Int) (ho : o ≤ 9223372036854775807) :
    Calls Try.prog 35 #[(.agg #[.slice v.oa v.K v.oc, .slice v.fa v.nf v.fc, .int .i64 v.c, .int .i64 v.B, .slice v.na v.N v.nc, .slice v.pa v.N v.pc, .slice v.qa v.M v.qc]), .int .i64 n, .int .i64 k, .int .i64 o] w (RsEnds P v (ownOut s n k o).1 (fun u => .tuple #[u, .int .i64 (ownOut s n k o).2]) w) := by
  unfold ownOut
  cases hg : getP s.ps n with
  | none => exact refShOwn_no h n k o hg
  | some X =>
    obtain ⟨i, hi, _, _⟩ := mem_idx (get_mem hg)
    exact refShOwn_at h up hnd hN n k o ho hi (hl n X (get_mem hg))
end

end Go.Proofs.Ytijkigibcpgciaa.Sh
