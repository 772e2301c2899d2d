import Derived.Test.YtijkigibcpgciaaZShRefCut
/-
  The document's own answers for package shelf: Give.
-/
namespace Go.Proofs.Ytijkigibcpgciaa.Sh
open Go.ChangeShapes Go.WideShapes Go.ChangeAt Go.RowKit Go.Deep
set_option maxRecDepth 100000

/-- The call's variables: its argument v, its result, and the shelf vt in block q. -/
structure T4 (w W : World) (v vt : Rv) (q : Nat) : Prop where
  a : Bs W w.heap.size v
  t : Bs W q vt
  r : B7 W (w.heap.size + 1) (.slice none 0 0) (.slice none 0 0) (.int .i64 0) (.int .i64 0) (.slice none 0 0) (.slice none 0 0) (.slice none 0 0)
  below : Below w.heap.size w W
  l : w.heap.size + 2 ≤ q
  lt : q < W.heap.size
/-- All but the result and the shelf. -/
def Lq (P : Nat → Prop) (w : World) (q : Nat) : Nat → Prop := Less (Less P (w.heap.size + 1)) q
/-- With another list of open pages, of numbers, of rows, another pool. -/
def Rv.opens (v : Rv) (a : Option Addr) (n c : Nat) : Rv := ⟨v.oa, v.K, v.oc, v.fa, v.nf, v.fc, v.c, v.B, v.na, v.N, v.nc, v.pa, v.pc, a, n, c⟩
section
variable {w W W' : World} {P : Nat → Prop} {v vt : Rv} {s t : Shl} {q : Nat}
theorem T4.on (h : T4 w W v vt q) (hb : Below W.heap.size W W') : T4 w W' v vt q := ⟨B7.below h.a hb, B7.below h.t hb, h.r.below hb, belowT h.below hb, h.l, Nat.lt_of_lt_of_le h.lt hb.size⟩
theorem T4.open_ (h : T4 w W v vt q) (a : Option Addr) (n c : Nat) : T4 w (W.setCell ⟨q, 6, none⟩ (.slice a n c)) v (vt.opens a n c) q ∧ But (· = q) W (W.setCell ⟨q, 6, none⟩ (.slice a n c)) := by
  have hb := cell_but W q 6 (.slice a n c)
  have l := h.l
  exact ⟨⟨B7.but h.a hb (fun e => by omega), B7.set6 h.t _, h.r.but hb (fun e => by omega), h.below.trans (hb.one h.below.size (by omega)), h.l, Nat.lt_of_lt_of_le h.lt hb.size⟩, hb⟩
theorem Lq_up (up : Up w P) (h : T4 w W v vt q) : Up W (Lq P w q) := fun k hk => ⟨⟨up k (by have := h.below.size; omega), by have := h.l; have := h.lt; omega⟩, by have := h.lt; omega⟩
theorem Rs.varq (h : Rs W (Lq P w q) v s) (hb : But (· = q) W W') : Rs W' (Lq P w q) v s := h.but (hb.mono fun _ _ e p => p.2 e)
theorem Rs.resq (h : Rs W (Lq P w q) v s) (hb : But (· = w.heap.size + 1) W W') : Rs W' P v s := (h.but (hb.mono fun _ _ e p => p.1.2 e)).swap fun _ _ p => p.1.1
theorem Bs.far {W W' : World} {v : Rv} {q : Nat} {S : Nat → Prop} (h : Bs W q v) (hb : But S W W') (hn : ¬ S q) : Bs W' q v := B7.but h hb hn
end
section
variable {w : World} {P : Nat → Prop} {v : Rv} {s : Shl}
set_option maxHeartbeats 1000000 in
theorem refShGive_no (h : Rs w P v s) (n k : Int) (hg : getP s.ps n = none) :
    Calls Try.prog 34 #[(.agg #[.slice v.oa v.K v.oc, .slice v.fa v.nf v.fc, .int .i64 v.c, .int .i64 v.B, .slice v.na v.N v.nc, .slice v.pa v.N v.pc, .slice v.qa v.M v.qc]), .int .i64 n, .int .i64 k] w (RsEnds P v s (fun u => .tuple #[u, .int .i64 1]) w) := by
  have T0 := Two.new w v
  have HF := Lib.hid (refFind_no v (h.on T0.below).nums.ints (get_none.1 hg))
  have HT := Lib.hid T0
  have HR := Lib.hid h
  clear h hg T0
  go_enter Try.func34, Try.ntmps34
  go_wp2_with fail
  refine HF.out.mono ?_
  rintro e w2 ⟨rfl, b2⟩
  have T2 := HT.out.on b2
  have FIN : Hid (Below w.heap.size w (set7 w2 (w.heap.size + 1) (.slice v.oa v.K v.oc) (.slice v.fa v.nf v.fc) (.int .i64 v.c) (.int .i64 v.B) (.slice v.na v.N v.nc) (.slice v.pa v.N v.pc) (.slice v.qa v.M v.qc))) := Lib.hid (set7_below T2.below (Nat.le_refl _) (by omega) _ _ _ _ _ _ _)
  unfold set7 at FIN
  have T2a := T2.a
  have T2r := T2.r
  unfold Bs at T2a
  obtain ⟨x0, x1, x2, x3, x4, x5, x6, -, -, -, -, -, -, -⟩ := T2a
  obtain ⟨z0, z1, z2, z3, z4, z5, z6, g0, g1, g2, g3, g4, g5, g6⟩ := T2r
  clear b2 T2 HT HF
  go_wp2
  refine bodyPost_ret (v := .tuple #[(.agg #[.slice v.oa v.K v.oc, .slice v.fa v.nf v.fc, .int .i64 v.c, .int .i64 v.B, .slice v.na v.N v.nc, .slice v.pa v.N v.pc, .slice v.qa v.M v.qc]), .int .i64 1]) (by simp [results, Try.results34, go_sem, z0, z1, z2, z3, z4, z5, z6]) rfl ?_
  exact ⟨v, rfl, HR.out.on FIN.out, ⟨rfl, rfl, rfl⟩, FIN.out⟩
set_option maxHeartbeats 1000000 in
theorem refShGive_bad (h : Rs w P v s) (up : Up w P) (hnd : (nums s.ps).Nodup) (n k : Int) {i : Nat} {X : List Int} (hi : s.ps[i]? = some (n, X)) (hX : X.length ≤ 512) (z : Int) (hz : z ≠ 0) (he : Pg.giveE X k = z) :
    Calls Try.prog 34 #[(.agg #[.slice v.oa v.K v.oc, .slice v.fa v.nf v.fc, .int .i64 v.c, .int .i64 v.B, .slice v.na v.N v.nc, .slice v.pa v.N v.pc, .slice v.qa v.M v.qc]), .int .i64 n, .int .i64 k] w (RsEnds P v s (fun u => .tuple #[u, .int .i64 z]) w) := by
  have T0 := Two.new w v
  have szA : ((w.alloc (.cells #[.slice v.oa v.K v.oc, .slice v.fa v.nf v.fc, .int .i64 v.c, .int .i64 v.B, .slice v.na v.N v.nc, .slice v.pa v.N v.pc, .slice v.qa v.M v.qc] 36)).alloc (.cells #[.slice none 0 0, .slice none 0 0, .int .i64 0, .int .i64 0, .slice none 0 0, .slice none 0 0, .slice none 0 0] 36)).heap.size = w.heap.size + 2 := by simp
  have hA := (h.less (q := w.heap.size + 1) (by omega)).on T0.below
  have upA := up.less (q := w.heap.size + 1) T0.below.size (by omega)
  have hin : (nums s.ps)[i]? = some n := by unfold nums; rw [List.getElem?_map, hi]; rfl
  have hiN : i < v.N := by rw [h.numN]; exact (List.getElem?_eq_some_iff.1 hi).1
  have HF := Lib.hid (refFind_at v hA.nums.ints hin hnd)
  have HT := Lib.hid T0
  have HA := Lib.hid hA
  have UP := Lib.hid upA
  have UP0 := Lib.hid up
  have HI := Lib.hid hi
  have ND := Lib.hid hnd
  have HR0 := Lib.hid h
  have HCC : Hid (∀ (w2 : World) (g cap : Nat), Ints w2 w2.heap.size (some ⟨g, 0, none⟩) X.length X → Calls Try.prog 63 #[.slice (some ⟨g, 0, none⟩) X.length cap, .int .i64 k] w2 (Pg.RefP X.length g (Pg.giveX X k) (Pg.giveE X k) w2)) := Lib.hid fun w2 g cap hI => Pg.refGive_any (c := cap) hI hX k
  have HHo : Hid (∀ (w2 : World) (g cap : Nat), Ints w2 w2.heap.size (some ⟨g, 0, none⟩) X.length X → Calls Try.prog 61 #[.slice (some ⟨g, 0, none⟩) X.length cap] w2 (R1 (Pg.holeOf X) w2)) := Lib.hid fun w2 g cap hI => Pg.refHole_any (c := cap) hI
  have OL := Lib.hid (Pg.give_len (X := X) k)
  have HSZ := Lib.hid szA
  rw [he] at HCC
  have e0 : (z != 0) = true := by simpa using hz
  generalize Pg.holeOf X = hole at HHo
  clear h hi T0 hA upA up hin hX hnd szA hz he
  go_enter Try.func34, Try.ntmps34
  go_wp2_with fail
  refine HF.out.mono ?_
  rintro e w2 ⟨rfl, b2⟩
  have T2 := Lib.hid (HT.out.on b2)
  have H2 := Lib.hid (HA.out.on b2)
  have U2 := Lib.hid (UP.out.on b2.size)
  have S2 : Hid (w.heap.size + 2 ≤ w2.heap.size) := Lib.hid (by rw [← HSZ.out]; exact b2.size)
  obtain ⟨b, oo, g, cap, ea, hc, hI, pg, h1, hbl⟩ := H2.out.at_ HI.out
  have x5 := T2.out.a.c5
  rw [ea] at x5
  have HC := Lib.hid (HCC.out w2 g cap hI)
  have HH := Lib.hid (HHo.out w2 g cap hI)
  have d1 : decide ((i : Int) < 0) = false := by simp
  have PG := Lib.hid pg
  have L1 := Lib.hid h1
  clear b2 HT HA UP HF hI hbl pg h1 ea HCC HHo HSZ
  generalize hlX : X.length = lx at hc HC HH L1 OL
  clear hlX
  go_wp2_with fail
  refine HH.out.mono ?_
  rintro e wz ⟨rfl, rfl⟩
  go_wp2_with fail
  refine HC.out.mono ?_
  rintro e w3 ⟨g3, c3, rfl, s3, q3, b3⟩
  have T3' := T2.out.on b3
  have FIN : Hid (Below w.heap.size w (set7 w3 (w.heap.size + 1) (.slice v.oa v.K v.oc) (.slice v.fa v.nf v.fc) (.int .i64 v.c) (.int .i64 v.B) (.slice v.na v.N v.nc) (.slice v.pa v.N v.pc) (.slice v.qa v.M v.qc))) := Lib.hid (set7_below T3'.below (Nat.le_refl _) (by omega) _ _ _ _ _ _ _)
  unfold set7 at FIN
  have T2a := T3'.a
  have T2r := T3'.r
  unfold Bs at T2a
  obtain ⟨x0, x1, x2, x3, x4, x5', x6, -, -, -, -, -, -, -⟩ := T2a
  obtain ⟨z0, z1, z2, z3, z4, z5, z6, g0, g1, g2, g3', g4, g5, g6⟩ := T2r
  clear b3 T3' T2 H2 U2 s3 q3 HC HH x5 hc
  go_wp2
  refine bodyPost_ret (v := .tuple #[(.agg #[.slice v.oa v.K v.oc, .slice v.fa v.nf v.fc, .int .i64 v.c, .int .i64 v.B, .slice v.na v.N v.nc, .slice v.pa v.N v.pc, .slice v.qa v.M v.qc]), .int .i64 z]) (by simp [results, Try.results34, go_sem, z0, z1, z2, z3, z4, z5, z6]) rfl ?_
  exact ⟨v, rfl, HR0.out.on FIN.out, ⟨rfl, rfl, rfl⟩, FIN.out⟩
end
end Go.Proofs.Ytijkigibcpgciaa.Sh
