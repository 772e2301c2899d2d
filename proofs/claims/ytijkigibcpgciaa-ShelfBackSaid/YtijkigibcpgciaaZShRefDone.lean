import Derived.Test.YtijkigibcpgciaaZShRefDo
/-
  The document's own answers for package shelf: Do.
-/
namespace Go.Proofs.Ytijkigibcpgciaa.Sh
open Go.ChangeShapes Go.WideShapes Go.ChangeAt Go.RowKit Go.Deep
set_option maxRecDepth 100000

section
variable {w : World} {P : Nat → Prop} {v : Rv} {s : Shl}
theorem three_new (w : World) (v : Rv) (kind page at_ own : Int) : Bs (((w.alloc (.cells #[.slice v.oa v.K v.oc, .slice v.fa v.nf v.fc, .int .i64 v.c, .int .i64 v.B, .slice v.na v.N v.nc, .slice v.pa v.N v.pc, .slice v.qa v.M v.qc] 36)).alloc (.cells #[.int .u8 kind, .int .i64 page, .int .i64 at_, .int .i64 own] 41)).alloc (.cells #[.slice none 0 0, .slice none 0 0, .int .i64 0, .int .i64 0, .slice none 0 0, .slice none 0 0, .slice none 0 0] 36)) w.heap.size v ∧ B7 (((w.alloc (.cells #[.slice v.oa v.K v.oc, .slice v.fa v.nf v.fc, .int .i64 v.c, .int .i64 v.B, .slice v.na v.N v.nc, .slice v.pa v.N v.pc, .slice v.qa v.M v.qc] 36)).alloc (.cells #[.int .u8 kind, .int .i64 page, .int .i64 at_, .int .i64 own] 41)).alloc (.cells #[.slice none 0 0, .slice none 0 0, .int .i64 0, .int .i64 0, .slice none 0 0, .slice none 0 0, .slice none 0 0] 36)) (w.heap.size + 1 + 1) (.slice none 0 0) (.slice none 0 0) (.int .i64 0) (.int .i64 0) (.slice none 0 0) (.slice none 0 0) (.slice none 0 0) ∧ Below w.heap.size w (((w.alloc (.cells #[.slice v.oa v.K v.oc, .slice v.fa v.nf v.fc, .int .i64 v.c, .int .i64 v.B, .slice v.na v.N v.nc, .slice v.pa v.N v.pc, .slice v.qa v.M v.qc] 36)).alloc (.cells #[.int .u8 kind, .int .i64 page, .int .i64 at_, .int .i64 own] 41)).alloc (.cells #[.slice none 0 0, .slice none 0 0, .int .i64 0, .int .i64 0, .slice none 0 0, .slice none 0 0, .slice none 0 0] 36)) := by
  have b3 := (below2 w (.cells #[.slice v.oa v.K v.oc, .slice v.fa v.nf v.fc, .int .i64 v.c, .int .i64 v.B, .slice v.na v.N v.nc, .slice v.pa v.N v.pc, .slice v.qa v.M v.qc] 36) (.cells #[.int .u8 kind, .int .i64 page, .int .i64 at_, .int .i64 own] 41)).alloc (by simp; omega) (.cells #[.slice none 0 0, .slice none 0 0, .int .i64 0, .int .i64 0, .slice none 0 0, .slice none 0 0, .slice none 0 0] 36)
  refine ⟨((B7.new w _ _ _ _ _ _ _ _).below (below1 _ _)).below (below1 _ _), ?_, b3⟩
  have := B7.new ((w.alloc (.cells #[.slice v.oa v.K v.oc, .slice v.fa v.nf v.fc, .int .i64 v.c, .int .i64 v.B, .slice v.na v.N v.nc, .slice v.pa v.N v.pc, .slice v.qa v.M v.qc] 36)).alloc (.cells #[.int .u8 kind, .int .i64 page, .int .i64 at_, .int .i64 own] 41)) (.slice none 0 0) (.slice none 0 0) (.int .i64 0) (.int .i64 0) (.slice none 0 0) (.slice none 0 0) (.slice none 0 0) 36
  simpa using this
set_option maxHeartbeats 4000000 in
theorem refShDo_any (h : Rs w P v s) (up : Up w P) {K B : Nat} (hs : Sw K v.c B s) (hKv : v.K = K) (hK : K ≤ 1000) (hB : v.B = (B : Int)) (hB1 : 1 ≤ B) (hB2 : B ≤ 512) (kind page at_ own : Int) (hu : (Ac.mk kind page at_ own).fit) :
    Calls Try.prog 14 #[(.agg #[.slice v.oa v.K v.oc, .slice v.fa v.nf v.fc, .int .i64 v.c, .int .i64 v.B, .slice v.na v.N v.nc, .slice v.pa v.N v.pc, .slice v.qa v.M v.qc]), .agg #[.int .u8 kind, .int .i64 page, .int .i64 at_, .int .i64 own]] w (RsEnds P v (actS v.c B s ⟨kind, page, at_, own⟩).1 (fun u => .tuple #[u, .int .i64 (actS v.c B s ⟨kind, page, at_, own⟩).2.1, .int .i64 (actS v.c B s ⟨kind, page, at_, own⟩).2.2.1, .int .i64 (actS v.c B s ⟨kind, page, at_, own⟩).2.2.2]) w) := by
  obtain ⟨hk, hp, ha, ho⟩ := hu
  simp only at hk hp ha ho
  have e1 : kind.tmod 3 = kind % 3 := Int.tmod_eq_emod_of_nonneg hk.1
  obtain ⟨ta, tr, tb⟩ := three_new w v kind page at_ own
  have s3 : (((w.alloc (.cells #[.slice v.oa v.K v.oc, .slice v.fa v.nf v.fc, .int .i64 v.c, .int .i64 v.B, .slice v.na v.N v.nc, .slice v.pa v.N v.pc, .slice v.qa v.M v.qc] 36)).alloc (.cells #[.int .u8 kind, .int .i64 page, .int .i64 at_, .int .i64 own] 41)).alloc (.cells #[.slice none 0 0, .slice none 0 0, .int .i64 0, .int .i64 0, .slice none 0 0, .slice none 0 0, .slice none 0 0] 36)).heap.size = w.heap.size + 3 := by simp
  have hA := (h.less (q := w.heap.size + 1 + 1) (by omega)).on tb
  have upA := up.less (q := w.heap.size + 1 + 1) tb.size (by omega)
  have hN : v.N ≤ 1000 := by rw [h.numN]; exact Nat.le_trans hs.few hK
  have TR := Lib.hid tr
  have TB := Lib.hid tb
  have TA := Lib.hid ta
  have S3 := Lib.hid s3
  rcases (by omega : kind % 3 = 0 ∨ kind % 3 = 1 ∨ kind % 3 = 2) with q | q | q
  · have x1 : actS v.c B s ⟨kind, page, at_, own⟩ = takeOut v.c B s own := by simp [actS, q]
    rw [x1]
    have HC := Lib.hid (refTake_any hA upA hs hKv hK hB hB1 hB2 own ho.2)
    generalize takeOut v.c B s own = rr at HC ⊢
    obtain ⟨t, y1, y2, y3⟩ := rr
    dsimp only at HC ⊢
    rw [q] at e1
    clear h up hs hKv hK hB hB1 hB2 ta tr tb s3 hA upA hN x1
    go_enter Try.func14, Try.ntmps14
    go_wp2_with fail
    refine HC.out.mono ?_
    rintro e w1 ⟨v', rfl, r1, sm, b1⟩
    have z := TR.out.below b1
    have b5 := set7_but (t0 := .slice v'.oa v'.K v'.oc) (t1 := .slice v'.fa v'.nf v'.fc) (t2 := .int .i64 v'.c) (t3 := .int .i64 v'.B) (t4 := .slice v'.na v'.N v'.nc) (t5 := .slice v'.pa v'.N v'.pc) (t6 := .slice v'.qa v'.M v'.qc) w1 (w.heap.size + 1 + 1)
    have FIN := Lib.hid (show Rs (set7 w1 (w.heap.size + 1 + 1) (.slice v'.oa v'.K v'.oc) (.slice v'.fa v'.nf v'.fc) (.int .i64 v'.c) (.int .i64 v'.B) (.slice v'.na v'.N v'.nc) (.slice v'.pa v'.N v'.pc) (.slice v'.qa v'.M v'.qc)) P v' t ∧ Same v v' ∧ Below w.heap.size w (set7 w1 (w.heap.size + 1 + 1) (.slice v'.oa v'.K v'.oc) (.slice v'.fa v'.nf v'.fc) (.int .i64 v'.c) (.int .i64 v'.B) (.slice v'.na v'.N v'.nc) (.slice v'.pa v'.N v'.pc) (.slice v'.qa v'.M v'.qc)) from ⟨r1.fin b5, sm, set7_below (belowT TB.out b1) (Nat.le_refl _) (by omega) _ _ _ _ _ _ _⟩)
    unfold set7 at FIN
    obtain ⟨z0, z1, z2, z3, z4, z5, z6, g0, g1, g2, g3, g4, g5, g6⟩ := z
    clear r1 sm b1 b5 HC TR TB TA S3
    go_wp2
    refine bodyPost_ret (v := .tuple #[(.agg #[.slice v'.oa v'.K v'.oc, .slice v'.fa v'.nf v'.fc, .int .i64 v'.c, .int .i64 v'.B, .slice v'.na v'.N v'.nc, .slice v'.pa v'.N v'.pc, .slice v'.qa v'.M v'.qc]), .int .i64 y1, .int .i64 y2, .int .i64 y3]) (by simp [results, Try.results14, go_sem, z0, z1, z2, z3, z4, z5, z6]) rfl ?_
    exact ⟨v', rfl, FIN.out⟩
  · have x1 : actS v.c B s ⟨kind, page, at_, own⟩ = ((giveOut s page at_).1, 0, 0, (giveOut s page at_).2) := by simp [actS, q]
    rw [x1]
    have HC := Lib.hid (refShGive_any hA upA hs hKv hK hB2 page at_)
    generalize giveOut s page at_ = rr at HC ⊢
    obtain ⟨t, y3⟩ := rr
    dsimp only at HC ⊢
    rw [q] at e1
    clear h up hs hKv hK hB hB1 hB2 ta tr tb s3 hA upA hN x1
    go_enter Try.func14, Try.ntmps14
    go_wp2_with fail
    refine HC.out.mono ?_
    rintro e w1 ⟨v', rfl, r1, sm, b1⟩
    have z := (TR.out.below b1).below (below1 w1 (.cells #[.slice v'.oa v'.K v'.oc, .slice v'.fa v'.nf v'.fc, .int .i64 v'.c, .int .i64 v'.B, .slice v'.na v'.N v'.nc, .slice v'.pa v'.N v'.pc, .slice v'.qa v'.M v'.qc] 36))
    have lt1 := (TR.out.below b1).lt
    have n1 : ¬ w1.heap.size = w.heap.size + 1 + 1 := by omega
    have n2 : ¬ w.heap.size + 1 + 1 = w1.heap.size := by omega
    have b5 := set7_but (t0 := .slice v'.oa v'.K v'.oc) (t1 := .slice v'.fa v'.nf v'.fc) (t2 := .int .i64 v'.c) (t3 := .int .i64 v'.B) (t4 := .slice v'.na v'.N v'.nc) (t5 := .slice v'.pa v'.N v'.pc) (t6 := .slice v'.qa v'.M v'.qc) (w1.alloc (.cells #[.slice v'.oa v'.K v'.oc, .slice v'.fa v'.nf v'.fc, .int .i64 v'.c, .int .i64 v'.B, .slice v'.na v'.N v'.nc, .slice v'.pa v'.N v'.pc, .slice v'.qa v'.M v'.qc] 36)) (w.heap.size + 1 + 1)
    have FIN := Lib.hid (show Rs (set7 (w1.alloc (.cells #[.slice v'.oa v'.K v'.oc, .slice v'.fa v'.nf v'.fc, .int .i64 v'.c, .int .i64 v'.B, .slice v'.na v'.N v'.nc, .slice v'.pa v'.N v'.pc, .slice v'.qa v'.M v'.qc] 36)) (w.heap.size + 1 + 1) (.slice v'.oa v'.K v'.oc) (.slice v'.fa v'.nf v'.fc) (.int .i64 v'.c) (.int .i64 v'.B) (.slice v'.na v'.N v'.nc) (.slice v'.pa v'.N v'.pc) (.slice v'.qa v'.M v'.qc)) P v' t ∧ Same v v' ∧ Below w.heap.size w (set7 (w1.alloc (.cells #[.slice v'.oa v'.K v'.oc, .slice v'.fa v'.nf v'.fc, .int .i64 v'.c, .int .i64 v'.B, .slice v'.na v'.N v'.nc, .slice v'.pa v'.N v'.pc, .slice v'.qa v'.M v'.qc] 36)) (w.heap.size + 1 + 1) (.slice v'.oa v'.K v'.oc) (.slice v'.fa v'.nf v'.fc) (.int .i64 v'.c) (.int .i64 v'.B) (.slice v'.na v'.N v'.nc) (.slice v'.pa v'.N v'.pc) (.slice v'.qa v'.M v'.qc)) from ⟨(r1.on (below1 w1 (.cells #[.slice v'.oa v'.K v'.oc, .slice v'.fa v'.nf v'.fc, .int .i64 v'.c, .int .i64 v'.B, .slice v'.na v'.N v'.nc, .slice v'.pa v'.N v'.pc, .slice v'.qa v'.M v'.qc] 36))).fin b5, sm, set7_below (belowT (belowT TB.out b1) (below1 w1 (.cells #[.slice v'.oa v'.K v'.oc, .slice v'.fa v'.nf v'.fc, .int .i64 v'.c, .int .i64 v'.B, .slice v'.na v'.N v'.nc, .slice v'.pa v'.N v'.pc, .slice v'.qa v'.M v'.qc] 36))) (Nat.le_refl _) (by omega) _ _ _ _ _ _ _⟩)
    unfold set7 at FIN
    obtain ⟨z0, z1, z2, z3, z4, z5, z6, g0, g1, g2, g3, g4, g5, g6⟩ := z
    clear r1 sm b1 b5 HC TR TB TA S3 lt1
    go_wp2
    refine bodyPost_ret (v := .tuple #[(.agg #[.slice v'.oa v'.K v'.oc, .slice v'.fa v'.nf v'.fc, .int .i64 v'.c, .int .i64 v'.B, .slice v'.na v'.N v'.nc, .slice v'.pa v'.N v'.pc, .slice v'.qa v'.M v'.qc]), .int .i64 0, .int .i64 0, .int .i64 y3]) (by simp [results, Try.results14, go_sem, z0, z1, z2, z3, z4, z5, z6]) rfl ?_
    exact ⟨v', rfl, FIN.out⟩
  · have x1 : actS v.c B s ⟨kind, page, at_, own⟩ = ((ownOut s page at_ own).1, 0, 0, (ownOut s page at_ own).2) := by simp [actS, q]
    rw [x1]
    have HC := Lib.hid (refShOwn_any hA upA hs.nod (by omega) (fun n X hX => by rw [hs.len _ _ hX]; exact hB2) page at_ own ho.2)
    generalize ownOut s page at_ own = rr at HC ⊢
    obtain ⟨t, y3⟩ := rr
    dsimp only at HC ⊢
    rw [q] at e1
    clear h up hs hKv hK hB hB1 hB2 ta tr tb s3 hA upA hN x1
    go_enter Try.func14, Try.ntmps14
    go_wp2_with fail
    refine HC.out.mono ?_
    rintro e w1 ⟨v', rfl, r1, sm, b1⟩
    have z := (TR.out.below b1).below (below1 w1 (.cells #[.slice v'.oa v'.K v'.oc, .slice v'.fa v'.nf v'.fc, .int .i64 v'.c, .int .i64 v'.B, .slice v'.na v'.N v'.nc, .slice v'.pa v'.N v'.pc, .slice v'.qa v'.M v'.qc] 36))
    have lt1 := (TR.out.below b1).lt
    have n1 : ¬ w1.heap.size = w.heap.size + 1 + 1 := by omega
    have n2 : ¬ w.heap.size + 1 + 1 = w1.heap.size := by omega
    have b5 := set7_but (t0 := .slice v'.oa v'.K v'.oc) (t1 := .slice v'.fa v'.nf v'.fc) (t2 := .int .i64 v'.c) (t3 := .int .i64 v'.B) (t4 := .slice v'.na v'.N v'.nc) (t5 := .slice v'.pa v'.N v'.pc) (t6 := .slice v'.qa v'.M v'.qc) (w1.alloc (.cells #[.slice v'.oa v'.K v'.oc, .slice v'.fa v'.nf v'.fc, .int .i64 v'.c, .int .i64 v'.B, .slice v'.na v'.N v'.nc, .slice v'.pa v'.N v'.pc, .slice v'.qa v'.M v'.qc] 36)) (w.heap.size + 1 + 1)
    have FIN := Lib.hid (show Rs (set7 (w1.alloc (.cells #[.slice v'.oa v'.K v'.oc, .slice v'.fa v'.nf v'.fc, .int .i64 v'.c, .int .i64 v'.B, .slice v'.na v'.N v'.nc, .slice v'.pa v'.N v'.pc, .slice v'.qa v'.M v'.qc] 36)) (w.heap.size + 1 + 1) (.slice v'.oa v'.K v'.oc) (.slice v'.fa v'.nf v'.fc) (.int .i64 v'.c) (.int .i64 v'.B) (.slice v'.na v'.N v'.nc) (.slice v'.pa v'.N v'.pc) (.slice v'.qa v'.M v'.qc)) P v' t ∧ Same v v' ∧ Below w.heap.size w (set7 (w1.alloc (.cells #[.slice v'.oa v'.K v'.oc, .slice v'.fa v'.nf v'.fc, .int .i64 v'.c, .int .i64 v'.B, .slice v'.na v'.N v'.nc, .slice v'.pa v'.N v'.pc, .slice v'.qa v'.M v'.qc] 36)) (w.heap.size + 1 + 1) (.slice v'.oa v'.K v'.oc) (.slice v'.fa v'.nf v'.fc) (.int .i64 v'.c) (.int .i64 v'.B) (.slice v'.na v'.N v'.nc) (.slice v'.pa v'.N v'.pc) (.slice v'.qa v'.M v'.qc)) from ⟨(r1.on (below1 w1 (.cells #[.slice v'.oa v'.K v'.oc, .slice v'.fa v'.nf v'.fc, .int .i64 v'.c, .int .i64 v'.B, .slice v'.na v'.N v'.nc, .slice v'.pa v'.N v'.pc, .slice v'.qa v'.M v'.qc] 36))).fin b5, sm, set7_below (belowT (belowT TB.out b1) (below1 w1 (.cells #[.slice v'.oa v'.K v'.oc, .slice v'.fa v'.nf v'.fc, .int .i64 v'.c, .int .i64 v'.B, .slice v'.na v'.N v'.nc, .slice v'.pa v'.N v'.pc, .slice v'.qa v'.M v'.qc] 36))) (Nat.le_refl _) (by omega) _ _ _ _ _ _ _⟩)
    unfold set7 at FIN
    obtain ⟨z0, z1, z2, z3, z4, z5, z6, g0, g1, g2, g3, g4, g5, g6⟩ := z
    clear r1 sm b1 b5 HC TR TB TA S3 lt1
    go_wp2
    refine bodyPost_ret (v := .tuple #[(.agg #[.slice v'.oa v'.K v'.oc, .slice v'.fa v'.nf v'.fc, .int .i64 v'.c, .int .i64 v'.B, .slice v'.na v'.N v'.nc, .slice v'.pa v'.N v'.pc, .slice v'.qa v'.M v'.qc]), .int .i64 0, .int .i64 0, .int .i64 y3]) (by simp [results, Try.results14, go_sem, z0, z1, z2, z3, z4, z5, z6]) rfl ?_
    exact ⟨v', rfl, FIN.out⟩
end
end Go.Proofs.Ytijkigibcpgciaa.Sh
