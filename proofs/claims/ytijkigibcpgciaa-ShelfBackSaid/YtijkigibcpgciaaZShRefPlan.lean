import Derived.Test.YtijkigibcpgciaaZShRefTell
import Derived.Test.YtijkigibcpgciaaZShPlan
/-
  The document's own answers for package shelf: Plan.
-/
namespace Go.Proofs.Ytijkigibcpgciaa.Sh
open Go.ChangeShapes Go.WideShapes Go.ChangeAt Go.RowKit Go.Deep
set_option maxRecDepth 100000

theorem set4_but (u : World) (q : Nat) (c0 c1 c2 c3 : Value) : But (· = q) u ((((u.setCell ⟨q, 0, none⟩ c0).setCell ⟨q, 1, none⟩ c1).setCell ⟨q, 2, none⟩ c2).setCell ⟨q, 3, none⟩ c3) :=
  ((((But.refl (· = q) u).setCell (p := ⟨q, 0, none⟩) (fun _ => rfl) c0).setCell (p := ⟨q, 1, none⟩) (fun _ => rfl) c1).setCell (p := ⟨q, 2, none⟩) (fun _ => rfl) c2).setCell (p := ⟨q, 3, none⟩) (fun _ => rfl) c3
section
variable {w : World} {P : Nat → Prop} {v : Rv} {s : Shl}
theorem refShPlan_none (h : Rs w P v s) (hop : s.op.length < 2) : Calls Try.prog 37 #[(.agg #[.slice v.oa v.K v.oc, .slice v.fa v.nf v.fc, .int .i64 v.c, .int .i64 v.B, .slice v.na v.N v.nc, .slice v.pa v.N v.pc, .slice v.qa v.M v.qc])] w (VB (planV none) w) := by
  have d1 : decide ((v.M : Int) < 2) = true := by rw [h.opM]; simp; omega
  clear h hop
  go_enter Try.func37, Try.ntmps37
  go_wp2
  refine bodyPost_ret (v := planV none) (by simp [results, Try.results37, go_sem, planV]) rfl ?_
  exact ⟨rfl, below2 w _ _⟩
set_option maxHeartbeats 4000000 in
theorem refShPlan_some (h : Rs w P v s) (hnd : (nums s.ps).Nodup) (hop : 2 ≤ s.op.length) (hM : s.op.length ≤ 1000) {f t : Int} (hf : s.op.getLastD (-1) = f) (ht : s.op.headD (-1) = t) {XF XT : List Int} (hF : (f, XF) ∈ s.ps) (hT : (t, XT) ∈ s.ps) :
    Calls Try.prog 37 #[(.agg #[.slice v.oa v.K v.oc, .slice v.fa v.nf v.fc, .int .i64 v.c, .int .i64 v.B, .slice v.na v.N v.nc, .slice v.pa v.N v.pc, .slice v.qa v.M v.qc])] w (VB (planV (some (f, Pg.topOf XF, t, Pg.holeOf XT))) w) := by
  obtain ⟨iF, hiF, hnF, hlF⟩ := mem_idx hF
  obtain ⟨iT, hiT, hnT, hlT⟩ := mem_idx hT
  obtain ⟨bq, oq, eq, hbq, hcq⟩ := h.op.ints.head (by rw [h.opM]; omega)
  obtain ⟨bp, op, gF, capF, ep, cF, IF, _, l1F, hbp⟩ := h.at_ hiF
  obtain ⟨bp', op', gT, capT, ep', cT, IT, _, l1T, _⟩ := h.at_ hiT
  rw [ep] at ep'
  injection ep' with ep'
  injection ep' with e1 e2
  subst e1 e2
  obtain ⟨oa, K, oc, fa, nf, fc, c, B, na, N, nc, pa, pc, qa, M, qc⟩ := v
  dsimp only at eq ep
  subst eq ep
  have eM : M = s.op.length := h.opM
  obtain ⟨m1, em1⟩ : ∃ m1, m1 = M - 1 := ⟨_, rfl⟩
  have clast : w.cell? ⟨bq, oq + m1, none⟩ = some (.int .i64 f) := hcq m1 f (by
    rw [← hf, List.getLastD_eq_getLast?, List.getLast?_eq_getElem?, em1, eM]
    rw [List.getElem?_eq_getElem (by omega)]
    rfl)
  have cfirst : w.cell? ⟨bq, oq, none⟩ = some (.int .i64 t) := by
    have := hcq 0 t (by
      cases q : s.op with
      | nil => rw [q] at hop; simp at hop
      | cons x r => rw [q] at ht; simp at ht; simp [ht])
    rwa [Nat.add_zero] at this
  have bz := below2 w (.cells #[.slice oa K oc, .slice fa nf fc, .int .i64 c, .int .i64 B, .slice na N nc, .slice (some ⟨bp, op, none⟩) N pc, .slice (some ⟨bq, oq, none⟩) M qc] 36) (.cells #[.int .i64 0, .int .i64 0, .int .i64 0, .int .i64 0] 53)
  have NI := h.nums.ints
  have hN : N = s.ps.length := h.numN
  have BZ := Lib.hid bz
  have LW : Hid (((w.alloc (.cells #[.slice oa K oc, .slice fa nf fc, .int .i64 c, .int .i64 B, .slice na N nc, .slice (some ⟨bp, op, none⟩) N pc, .slice (some ⟨bq, oq, none⟩) M qc] 36)).alloc (.cells #[.int .i64 0, .int .i64 0, .int .i64 0, .int .i64 0] 53)).heap.size = w.heap.size + 2) := Lib.hid (by simp)
  have HF1 : Hid (∀ u, Below w.heap.size w u → Calls Try.prog 58 #[.agg #[.slice oa K oc, .slice fa nf fc, .int .i64 c, .int .i64 B, .slice na N nc, .slice (some ⟨bp, op, none⟩) N pc, .slice (some ⟨bq, oq, none⟩) M qc], .int .i64 f] u (IB (iF : Int) u)) := Lib.hid fun u hu => refFind_at ⟨oa, K, oc, fa, nf, fc, c, B, na, N, nc, some ⟨bp, op, none⟩, pc, some ⟨bq, oq, none⟩, M, qc⟩ (NI.on hu) hnF hnd
  have HF2 : Hid (∀ u, Below w.heap.size w u → Calls Try.prog 58 #[.agg #[.slice oa K oc, .slice fa nf fc, .int .i64 c, .int .i64 B, .slice na N nc, .slice (some ⟨bp, op, none⟩) N pc, .slice (some ⟨bq, oq, none⟩) M qc], .int .i64 t] u (IB (iT : Int) u)) := Lib.hid fun u hu => refFind_at ⟨oa, K, oc, fa, nf, fc, c, B, na, N, nc, some ⟨bp, op, none⟩, pc, some ⟨bq, oq, none⟩, M, qc⟩ (NI.on hu) hnT hnd
  obtain ⟨lF, elF⟩ : ∃ l, l = XF.length := ⟨_, rfl⟩
  obtain ⟨lT, elT⟩ : ∃ l, l = XT.length := ⟨_, rfl⟩
  rw [← elF] at cF IF
  rw [← elT] at cT IT
  have HTp : Hid (∀ u, Below w.heap.size w u → Calls Try.prog 67 #[.slice (some ⟨gF, 0, none⟩) lF capF] u (R1 (Pg.topOf XF) u)) := Lib.hid fun u hu => Pg.refTop_any (c := capF) (IF.on hu)
  have HHo : Hid (∀ u, Below w.heap.size w u → Calls Try.prog 61 #[.slice (some ⟨gT, 0, none⟩) lT capT] u (R1 (Pg.holeOf XT) u)) := Lib.hid fun u hu => Pg.refHole_any (c := capT) (IT.on hu)
  have A0 := (B7.new w (.slice oa K oc) (.slice fa nf fc) (.int .i64 c) (.int .i64 B) (.slice na N nc) (.slice (some ⟨bp, op, none⟩) N pc) (.slice (some ⟨bq, oq, none⟩) M qc) 36).below (below1 _ (.cells #[.int .i64 0, .int .i64 0, .int .i64 0, .int .i64 0] 53))
  have Z0 : Pz ((w.alloc (.cells #[.slice oa K oc, .slice fa nf fc, .int .i64 c, .int .i64 B, .slice na N nc, .slice (some ⟨bp, op, none⟩) N pc, .slice (some ⟨bq, oq, none⟩) M qc] 36)).alloc (.cells #[.int .i64 0, .int .i64 0, .int .i64 0, .int .i64 0] 53)) (w.heap.size + 1) := by
    have := Pz.new (w.alloc (.cells #[.slice oa K oc, .slice fa nf fc, .int .i64 c, .int .i64 B, .slice na N nc, .slice (some ⟨bp, op, none⟩) N pc, .slice (some ⟨bq, oq, none⟩) M qc] 36))
    simpa using this
  have PK : Hid (∀ u, Below ((w.alloc (.cells #[.slice oa K oc, .slice fa nf fc, .int .i64 c, .int .i64 B, .slice na N nc, .slice (some ⟨bp, op, none⟩) N pc, .slice (some ⟨bq, oq, none⟩) M qc] 36)).alloc (.cells #[.int .i64 0, .int .i64 0, .int .i64 0, .int .i64 0] 53)).heap.size ((w.alloc (.cells #[.slice oa K oc, .slice fa nf fc, .int .i64 c, .int .i64 B, .slice na N nc, .slice (some ⟨bp, op, none⟩) N pc, .slice (some ⟨bq, oq, none⟩) M qc] 36)).alloc (.cells #[.int .i64 0, .int .i64 0, .int .i64 0, .int .i64 0] 53)) u → (fun v => v.cell? ⟨w.heap.size, 0, none⟩ = some (.slice oa K oc) ∧ v.cell? ⟨w.heap.size, 1, none⟩ = some (.slice fa nf fc) ∧ v.cell? ⟨w.heap.size, 2, none⟩ = some (.int .i64 c) ∧ v.cell? ⟨w.heap.size, 3, none⟩ = some (.int .i64 B) ∧ v.cell? ⟨w.heap.size, 4, none⟩ = some (.slice na N nc) ∧ v.cell? ⟨w.heap.size, 5, none⟩ = some (.slice (some ⟨bp, op, none⟩) N pc) ∧ v.cell? ⟨w.heap.size, 6, none⟩ = some (.slice (some ⟨bq, oq, none⟩) M qc) ∧ v.cell? ⟨bq, oq + m1, none⟩ = some (.int .i64 f) ∧ v.cell? ⟨bq, oq, none⟩ = some (.int .i64 t) ∧ v.cell? ⟨bp, op + iF, none⟩ = some (.slice (some ⟨gF, 0, none⟩) lF capF) ∧ v.cell? ⟨bp, op + iT, none⟩ = some (.slice (some ⟨gT, 0, none⟩) lT capT)) u) := Lib.hid fun u hu => by
    have a := A0.below hu
    have bu := belowT bz hu
    exact ⟨a.c0, a.c1, a.c2, a.c3, a.c4, a.c5, a.c6, (bu.cell (p := ⟨bq, oq + m1, none⟩) hbq).trans clast, (bu.cell (p := ⟨bq, oq, none⟩) hbq).trans cfirst, (bu.cell (p := ⟨bp, op + iF, none⟩) hbp).trans cF, (bu.cell (p := ⟨bp, op + iT, none⟩) hbp).trans cT⟩
  have PK2 : Hid (∀ u u', Below ((w.alloc (.cells #[.slice oa K oc, .slice fa nf fc, .int .i64 c, .int .i64 B, .slice na N nc, .slice (some ⟨bp, op, none⟩) N pc, .slice (some ⟨bq, oq, none⟩) M qc] 36)).alloc (.cells #[.int .i64 0, .int .i64 0, .int .i64 0, .int .i64 0] 53)).heap.size ((w.alloc (.cells #[.slice oa K oc, .slice fa nf fc, .int .i64 c, .int .i64 B, .slice na N nc, .slice (some ⟨bp, op, none⟩) N pc, .slice (some ⟨bq, oq, none⟩) M qc] 36)).alloc (.cells #[.int .i64 0, .int .i64 0, .int .i64 0, .int .i64 0] 53)) u → But (· = w.heap.size + 1) u u' → (fun v => v.cell? ⟨w.heap.size, 0, none⟩ = some (.slice oa K oc) ∧ v.cell? ⟨w.heap.size, 1, none⟩ = some (.slice fa nf fc) ∧ v.cell? ⟨w.heap.size, 2, none⟩ = some (.int .i64 c) ∧ v.cell? ⟨w.heap.size, 3, none⟩ = some (.int .i64 B) ∧ v.cell? ⟨w.heap.size, 4, none⟩ = some (.slice na N nc) ∧ v.cell? ⟨w.heap.size, 5, none⟩ = some (.slice (some ⟨bp, op, none⟩) N pc) ∧ v.cell? ⟨w.heap.size, 6, none⟩ = some (.slice (some ⟨bq, oq, none⟩) M qc) ∧ v.cell? ⟨bq, oq + m1, none⟩ = some (.int .i64 f) ∧ v.cell? ⟨bq, oq, none⟩ = some (.int .i64 t) ∧ v.cell? ⟨bp, op + iF, none⟩ = some (.slice (some ⟨gF, 0, none⟩) lF capF) ∧ v.cell? ⟨bp, op + iT, none⟩ = some (.slice (some ⟨gT, 0, none⟩) lT capT)) u') := Lib.hid fun u u' hu hb => by
    have k := PK.out u hu
    have bu := belowT bz hu
    have a := (A0.below hu).but hb (fun e => by omega)
    have s0 := bu.size
    exact ⟨a.c0, a.c1, a.c2, a.c3, a.c4, a.c5, a.c6, (hb.cell (p := ⟨bq, oq + m1, none⟩) (Nat.lt_of_lt_of_le hbq s0) (fun e => by simp only at e; omega)).trans k.2.2.2.2.2.2.2.1, (hb.cell (p := ⟨bq, oq, none⟩) (Nat.lt_of_lt_of_le hbq s0) (fun e => by simp only at e; omega)).trans k.2.2.2.2.2.2.2.2.1, (hb.cell (p := ⟨bp, op + iF, none⟩) (Nat.lt_of_lt_of_le hbp s0) (fun e => by simp only at e; omega)).trans k.2.2.2.2.2.2.2.2.2.1, (hb.cell (p := ⟨bp, op + iT, none⟩) (Nat.lt_of_lt_of_le hbp s0) (fun e => by simp only at e; omega)).trans k.2.2.2.2.2.2.2.2.2.2⟩
  have d1 : decide ((M : Int) < 2) = false := by simp; omega
  have hwr : IntKind.i64.wrap ((M : Int) - 1) = (m1 : Int) := by rw [IntWalk.i64_in _ (by omega)]; omega
  have hm1 : m1 < M := by omega
  have h0M : 0 < M := by omega
  have hiFN : iF < N := by omega
  have hiTN : iT < N := by omega
  have HZ := Lib.hid Z0
  have BD : Below ((w.alloc (.cells #[.slice oa K oc, .slice fa nf fc, .int .i64 c, .int .i64 B, .slice na N nc, .slice (some ⟨bp, op, none⟩) N pc, .slice (some ⟨bq, oq, none⟩) M qc] 36)).alloc (.cells #[.int .i64 0, .int .i64 0, .int .i64 0, .int .i64 0] 53)).heap.size ((w.alloc (.cells #[.slice oa K oc, .slice fa nf fc, .int .i64 c, .int .i64 B, .slice na N nc, .slice (some ⟨bp, op, none⟩) N pc, .slice (some ⟨bq, oq, none⟩) M qc] 36)).alloc (.cells #[.int .i64 0, .int .i64 0, .int .i64 0, .int .i64 0] 53)) ((w.alloc (.cells #[.slice oa K oc, .slice fa nf fc, .int .i64 c, .int .i64 B, .slice na N nc, .slice (some ⟨bp, op, none⟩) N pc, .slice (some ⟨bq, oq, none⟩) M qc] 36)).alloc (.cells #[.int .i64 0, .int .i64 0, .int .i64 0, .int .i64 0] 53)).drew := belowD (Below.refl _ _)
  have kW := PK.out _ (Below.refl _ _)
  have kD := PK.out _ BD
  dsimp only at kW kD
  generalize Pg.topOf XF = tp at HTp ⊢
  generalize Pg.holeOf XT = hl at HHo ⊢
  have BT : Hid (∀ u, Below ((w.alloc (.cells #[.slice oa K oc, .slice fa nf fc, .int .i64 c, .int .i64 B, .slice na N nc, .slice (some ⟨bp, op, none⟩) N pc, .slice (some ⟨bq, oq, none⟩) M qc] 36)).alloc (.cells #[.int .i64 0, .int .i64 0, .int .i64 0, .int .i64 0] 53)).heap.size ((w.alloc (.cells #[.slice oa K oc, .slice fa nf fc, .int .i64 c, .int .i64 B, .slice na N nc, .slice (some ⟨bp, op, none⟩) N pc, .slice (some ⟨bq, oq, none⟩) M qc] 36)).alloc (.cells #[.int .i64 0, .int .i64 0, .int .i64 0, .int .i64 0] 53)) u → Below w.heap.size w u) := Lib.hid fun u hu => belowT bz hu
  clear h hnd hop hM hf ht hF hT hiF hiT hnF hnT hlF hlT hbq hcq cF IF l1F hbp cT IT l1T eM clast cfirst bz NI hN A0 Z0 elF elT em1
  go_enter Try.func37, Try.ntmps37
  go_wp2_with fail
  obtain ⟨wa, ewa⟩ : ∃ wa, wa = ((w.alloc (.cells #[.slice oa K oc, .slice fa nf fc, .int .i64 c, .int .i64 B, .slice na N nc, .slice (some ⟨bp, op, none⟩) N pc, .slice (some ⟨bq, oq, none⟩) M qc] 36)).alloc (.cells #[.int .i64 0, .int .i64 0, .int .i64 0, .int .i64 0] 53)) := ⟨_, rfl⟩
  rw [← ewa] at HZ BD kW kD PK PK2 BT ⊢
  clear ewa LW BZ
  go_region_held3 (fun v => v.cell? ⟨w.heap.size, 0, none⟩ = some (.slice oa K oc) ∧ v.cell? ⟨w.heap.size, 1, none⟩ = some (.slice fa nf fc) ∧ v.cell? ⟨w.heap.size, 2, none⟩ = some (.int .i64 c) ∧ v.cell? ⟨w.heap.size, 3, none⟩ = some (.int .i64 B) ∧ v.cell? ⟨w.heap.size, 4, none⟩ = some (.slice na N nc) ∧ v.cell? ⟨w.heap.size, 5, none⟩ = some (.slice (some ⟨bp, op, none⟩) N pc) ∧ v.cell? ⟨w.heap.size, 6, none⟩ = some (.slice (some ⟨bq, oq, none⟩) M qc) ∧ v.cell? ⟨bq, oq + m1, none⟩ = some (.int .i64 f) ∧ v.cell? ⟨bq, oq, none⟩ = some (.int .i64 t) ∧ v.cell? ⟨bp, op + iF, none⟩ = some (.slice (some ⟨gF, 0, none⟩) lF capF) ∧ v.cell? ⟨bp, op + iT, none⟩ = some (.slice (some ⟨gT, 0, none⟩) lT capT))
    (first | with_reducible exact kD | with_reducible exact k2 | with_reducible exact kW)
    ((go_at_call 58; refine (HF1.out _ ?_).mono ?_; exact BT.out _ BD; rintro e w2 ⟨rfl, b2⟩; have B2 := belowT BD b2; have k2 := PK.out _ B2))
  have BE := belowD B2
  have kE := PK.out _ BE
  try dsimp only at k2
  try dsimp only at kE
  clear kD BD kW b2 HF1
  go_wp2_with fail
  go_region_held3 (fun v => v.cell? ⟨w.heap.size, 0, none⟩ = some (.slice oa K oc) ∧ v.cell? ⟨w.heap.size, 1, none⟩ = some (.slice fa nf fc) ∧ v.cell? ⟨w.heap.size, 2, none⟩ = some (.int .i64 c) ∧ v.cell? ⟨w.heap.size, 3, none⟩ = some (.int .i64 B) ∧ v.cell? ⟨w.heap.size, 4, none⟩ = some (.slice na N nc) ∧ v.cell? ⟨w.heap.size, 5, none⟩ = some (.slice (some ⟨bp, op, none⟩) N pc) ∧ v.cell? ⟨w.heap.size, 6, none⟩ = some (.slice (some ⟨bq, oq, none⟩) M qc) ∧ v.cell? ⟨bq, oq + m1, none⟩ = some (.int .i64 f) ∧ v.cell? ⟨bq, oq, none⟩ = some (.int .i64 t) ∧ v.cell? ⟨bp, op + iF, none⟩ = some (.slice (some ⟨gF, 0, none⟩) lF capF) ∧ v.cell? ⟨bp, op + iT, none⟩ = some (.slice (some ⟨gT, 0, none⟩) lT capT))
    (first | with_reducible exact kE | with_reducible exact k3 | with_reducible exact k2)
    ((go_at_call 58; refine (HF2.out _ ?_).mono ?_; exact BT.out _ BE; rintro e w3 ⟨rfl, b3⟩; have B3 := belowT BE b3; have k3 := PK.out _ B3))
  have BF := belowD B3
  have kF := PK.out _ BF
  have Z3 := HZ.out.below B3
  obtain ⟨z0, z1, z2, z3, y0, y1, y2, y3⟩ := Z3
  have Z4 := HZ.out.below BF
  obtain ⟨x0, x1, x2, x3, u0, u1, u2, u3⟩ := Z4
  try dsimp only at k3
  try dsimp only at kF
  clear kE BE k2 b3 HF2 B2
  go_wp2_with fail
  go_region_held3 (fun v => v.cell? ⟨w.heap.size, 0, none⟩ = some (.slice oa K oc) ∧ v.cell? ⟨w.heap.size, 1, none⟩ = some (.slice fa nf fc) ∧ v.cell? ⟨w.heap.size, 2, none⟩ = some (.int .i64 c) ∧ v.cell? ⟨w.heap.size, 3, none⟩ = some (.int .i64 B) ∧ v.cell? ⟨w.heap.size, 4, none⟩ = some (.slice na N nc) ∧ v.cell? ⟨w.heap.size, 5, none⟩ = some (.slice (some ⟨bp, op, none⟩) N pc) ∧ v.cell? ⟨w.heap.size, 6, none⟩ = some (.slice (some ⟨bq, oq, none⟩) M qc) ∧ v.cell? ⟨bq, oq + m1, none⟩ = some (.int .i64 f) ∧ v.cell? ⟨bq, oq, none⟩ = some (.int .i64 t) ∧ v.cell? ⟨bp, op + iF, none⟩ = some (.slice (some ⟨gF, 0, none⟩) lF capF) ∧ v.cell? ⟨bp, op + iT, none⟩ = some (.slice (some ⟨gT, 0, none⟩) lT capT))
    (first | with_reducible exact kF | with_reducible exact k3 | exact PK2.out _ _ BF (set4_but _ _ _ _ _ _))
    (first
      | (go_at_call 67; refine (HTp.out _ ?_).mono ?_; exact BT.out _ BF; rintro e w4 ⟨rfl, rfl⟩)
      | (go_at_call 61; refine (HHo.out _ ?_).mono ?_; exact BT.out _ BF; rintro e w5 ⟨rfl, rfl⟩))
  all_goals
    have HB : Hid (Below w.heap.size w ((((w3.drew.setCell ⟨w.heap.size + 1, 0, none⟩ (.int .i64 f)).setCell ⟨w.heap.size + 1, 1, none⟩ (.int .i64 tp)).setCell ⟨w.heap.size + 1, 2, none⟩ (.int .i64 t)).setCell ⟨w.heap.size + 1, 3, none⟩ (.int .i64 hl))) := Lib.hid ((BT.out _ BF).trans ((set4_but _ _ _ _ _ _).one (BT.out _ BF).size (by omega)))
    rename_i hh
    clear hh kF k3 PK PK2 HTp HHo BT BF B3 HZ y0 y1 y2 y3
    go_wp2
    refine bodyPost_ret (v := planV (some (f, tp, t, hl))) (by simp [results, Try.results37, go_sem, planV, z0, z1, z2, z3]) rfl ?_
    exact ⟨rfl, HB.out⟩
theorem refShPlan_any (h : Rs w P v s) {K B : Nat} {c : Int} (hs : Sw K c B s) (hK : K ≤ 1000) : Calls Try.prog 37 #[(.agg #[.slice v.oa v.K v.oc, .slice v.fa v.nf v.fc, .int .i64 v.c, .int .i64 v.B, .slice v.na v.N v.nc, .slice v.pa v.N v.pc, .slice v.qa v.M v.qc])] w (VB (planV (planS s)) w) := by
  unfold planS
  by_cases hl : s.op.length < 2
  · rw [if_pos hl]
    exact refShPlan_none h hl
  · rw [if_neg hl]
    have hne : s.op ≠ [] := fun e => by rw [e] at hl; simp at hl
    have h1 : s.op.getLastD (-1) ∈ s.op := by
      rw [List.getLastD_eq_getLast?]
      cases q : s.op.getLast? with
      | none => exact absurd (List.getLast?_eq_none_iff.1 q) hne
      | some v => exact List.mem_of_getLast? q
    have h2 : s.op.headD (-1) ∈ s.op := by
      cases q : s.op with
      | nil => exact absurd q hne
      | cons a r => simp
    obtain ⟨XF, hF, _⟩ := (hs.opm _).1 h1
    obtain ⟨XT, hT, _⟩ := (hs.opm _).1 h2
    have e1 : pageAt s (s.op.getLastD (-1)) = XF := by unfold pageAt; rw [mem_get hs.nod hF]; rfl
    have e2 : pageAt s (s.op.headD (-1)) = XT := by unfold pageAt; rw [mem_get hs.nod hT]; rfl
    dsimp only
    rw [e1, e2]
    exact refShPlan_some h hs.nod (by omega) (Nat.le_trans hs.op_few hK) rfl rfl hF hT
end
end Go.Proofs.Ytijkigibcpgciaa.Sh
