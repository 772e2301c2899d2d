import Derived.Test.YtfkegbipfekbdaaZShGrow
import Derived.Test.YtfkegbipfekbdaaZPgBits
/-
  Package shelf: Plan, met by a contract.
-/
namespace Go.Proofs.Ytfkegbipfekbdaa.Sh
open Go.ChangeShapes Go.WideShapes Go.ChangeAt Go.RowKit
set_option maxRecDepth 100000

/-- What Plan answers. -/
def planV : Option (Int × Int × Int × Int) → Value
  | none => .tuple #[.agg #[.int .i64 0, .int .i64 0, .int .i64 0, .int .i64 0], .bool false]
  | some (a, b, c, d) => .tuple #[.agg #[.int .i64 a, .int .i64 b, .int .i64 c, .int .i64 d], .bool true]
/-- It answers v, and leaves all memory that was there as it was. -/
def VB (v : Value) (w : World) (e : Ending) (w' : World) : Prop := e = .returned v ∧ Below w.heap.size w w'
theorem below_set {B : Nat} {w v : World} (h : Below B w v) {p : Addr} (hp : B ≤ p.block) (u : Value) : Below B w (v.setCell p u) :=
  ⟨h.os, h.tape, h.output, by simpa [World.setCell] using h.size, fun k hk => by rw [Below.heap_setCell _ _ _ _ (by omega)]; exact h.block k hk⟩
/-- Block p is a Plan that is all 0, and may be written. -/
structure Pz (v : World) (p : Nat) : Prop where
  c0 : v.cell? ⟨p, 0, none⟩ = some (.int .i64 0)
  c1 : v.cell? ⟨p, 1, none⟩ = some (.int .i64 0)
  c2 : v.cell? ⟨p, 2, none⟩ = some (.int .i64 0)
  c3 : v.cell? ⟨p, 3, none⟩ = some (.int .i64 0)
  f0 : v.frozen? ⟨p, 0, none⟩ = false
  f1 : v.frozen? ⟨p, 1, none⟩ = false
  f2 : v.frozen? ⟨p, 2, none⟩ = false
  f3 : v.frozen? ⟨p, 3, none⟩ = false
theorem Pz.below {v v' : World} {p : Nat} (h : Pz v p) (hb : Below v.heap.size v v') : Pz v' p := by
  have hl : p < v.heap.size := lt_of_cell (p := ⟨p, 0, none⟩) h.c0
  have b := Below.but hb (fun _ => False)
  exact ⟨(b.cell (p := ⟨p, 0, none⟩) hl id).trans h.c0, (b.cell (p := ⟨p, 1, none⟩) hl id).trans h.c1, (b.cell (p := ⟨p, 2, none⟩) hl id).trans h.c2, (b.cell (p := ⟨p, 3, none⟩) hl id).trans h.c3,
    (b.frozen (p := ⟨p, 0, none⟩) hl id).trans h.f0, (b.frozen (p := ⟨p, 1, none⟩) hl id).trans h.f1, (b.frozen (p := ⟨p, 2, none⟩) hl id).trans h.f2, (b.frozen (p := ⟨p, 3, none⟩) hl id).trans h.f3⟩
theorem Pz.new (w : World) : Pz (w.alloc (.cells #[.int .i64 0, .int .i64 0, .int .i64 0, .int .i64 0] 42)) w.heap.size := ⟨by go_simp, by go_simp, by go_simp, by go_simp, by go_simp, by go_simp, by go_simp, by go_simp⟩
section
variable {w : World} {x : Fx} {A : Adr} {lab : Lab} {O fl op : List Int} {ps : Ps} {u : Int}
theorem plan_none (h : Sr w x A lab O fl ps op u) (hop : op.length < 2) : Calls Try.prog 40 #[.pointer (some ⟨x.s, 0, none⟩)] w (VB (planV none) w) := by
  have HO := Lib.hid (fun o => open_any (h.below (below1 w o)))
  have d1 : decide ((op.length : Int) < 2) = true := by simp; omega
  generalize (op.length : Int) = z at HO d1
  have BB : Hid (∀ o c0 c1 c2 c3, Below w.heap.size w (((((w.alloc o).setCell ⟨w.heap.size, 0, none⟩ c0).setCell ⟨w.heap.size, 1, none⟩ c1).setCell ⟨w.heap.size, 2, none⟩ c2).setCell ⟨w.heap.size, 3, none⟩ c3)) := Lib.hid fun o _ _ _ _ => below_set (below_set (below_set (below_set (below1 w o) (Nat.le_refl _) _) (Nat.le_refl _) _) (Nat.le_refl _) _) (Nat.le_refl _) _
  clear h hop
  go_enter Try.func40, Try.ntmps40
  go_wp2_with fail
  refine (HO.out _).mono ?_
  rintro e w' ⟨rfl, rfl⟩
  go_wp2
  refine bodyPost_ret (v := planV none) (by simp [results, Try.results40, go_sem, planV]) rfl ?_
  exact ⟨rfl, by first | exact BB.out _ _ _ _ _ | exact below1 _ _⟩
theorem plan_nil (w : World) : Calls Try.prog 40 #[.pointer none] w (VB (planV none) w) := by
  have HO := Lib.hid (fun v => open_nil v)
  have BB : Hid (∀ o c0 c1 c2 c3, Below w.heap.size w (((((w.alloc o).setCell ⟨w.heap.size, 0, none⟩ c0).setCell ⟨w.heap.size, 1, none⟩ c1).setCell ⟨w.heap.size, 2, none⟩ c2).setCell ⟨w.heap.size, 3, none⟩ c3)) := Lib.hid fun o _ _ _ _ => below_set (below_set (below_set (below_set (below1 w o) (Nat.le_refl _) _) (Nat.le_refl _) _) (Nat.le_refl _) _) (Nat.le_refl _) _
  go_enter Try.func40, Try.ntmps40
  go_wp2_with fail
  refine (HO.out _).mono ?_
  rintro e w' ⟨rfl, rfl⟩
  go_wp2
  refine bodyPost_ret (v := planV none) (by simp [results, Try.results40, go_sem, planV]) rfl ?_
  exact ⟨rfl, by first | exact BB.out _ _ _ _ _ | exact below1 _ _⟩
set_option maxHeartbeats 2000000 in
theorem plan_some (h : Sr w x A lab O fl ps op u) (hop : 2 ≤ op.length) {f t : Int} (hf : op.getLastD (-1) = f) (ht : op.headD (-1) = t) {XF XT : List Int} (hF : (f, XF) ∈ ps) (hT : (t, XT) ∈ ps) (ff : Pl.Fit f) (ft : Pl.Fit t) :
    Calls Try.prog 40 #[.pointer (some ⟨x.s, 0, none⟩)] w (VB (planV (some (f, Pg.topOf XF, t, Pg.holeOf XT))) w) := by
  have HO := Lib.hid (fun o => open_any (h.below (below1 w o)))
  have d1 : decide ((op.length : Int) < 2) = false := by simp; omega
  generalize (op.length : Int) = z at HO d1
  have HL : Hid (∀ v, Below w.heap.size w v → Calls Try.prog 67 #[.pointer (some ⟨x.rp, 0, none⟩), .int .i64 0] v (R1 f v)) := Lib.hid fun v hv => by
    have := Rn.rgLast (h.below hv).ring 0
    rwa [Rop.last, hf] at this
  have HH : Hid (∀ v, Below w.heap.size w v → Calls Try.prog 61 #[.pointer (some ⟨x.rp, 0, none⟩), .int .i64 0] v (R1 t v)) := Lib.hid fun v hv => by
    have := Rn.rgFirst (h.below hv).ring 0
    rwa [Rop.first, ht] at this
  obtain ⟨aF, eF⟩ : ∃ a, a = (A f).1 := ⟨_, rfl⟩
  obtain ⟨aT, eT⟩ : ∃ a, a = (A t).1 := ⟨_, rfl⟩
  have HP : Hid (∀ v, Below w.heap.size w v → Calls Try.prog 68 #[.pointer (some ⟨aF, 0, none⟩)] v (IB (Pg.topOf XF) v)) := Lib.hid fun v hv => by rw [eF]; exact Pg.top_any ((h.below hv).pgs _ _ hF)
  have HQ : Hid (∀ v, Below w.heap.size w v → Calls Try.prog 69 #[.pointer (some ⟨aT, 0, none⟩)] v (IB (Pg.holeOf XT) v)) := Lib.hid fun v hv => by rw [eT]; exact Pg.hole_any ((h.below hv).pgs _ _ hT)
  have PK : Hid (∀ v, Below w.heap.size w v → v.cell? ⟨x.s, 3, none⟩ = some (.map (some x.mm)) ∧ (Instr.lookup 97 (.map (some x.mm)) (.int .i64 f) false).run Try.prog v = .ok (.pointer (some ⟨aF, 0, none⟩)) v ∧ (Instr.lookup 97 (.map (some x.mm)) (.int .i64 t) false).run Try.prog v = .ok (.pointer (some ⟨aT, 0, none⟩)) v) := Lib.hid fun v hv => by
    have q := h.below hv
    refine ⟨q.cl.k3, ?_, ?_⟩
    · rw [eF, q.map.look ff, ptr_at hF]
    · rw [eT, q.map.look ft, ptr_at hT]
  have k4 : Hid (∀ v, Below w.heap.size w v → v.cell? ⟨x.s, 4, none⟩ = some (.pointer (some ⟨x.rp, 0, none⟩))) := Lib.hid fun v hv => (h.below hv).cl.k4
  clear h hop hf ht hF hT ff ft eF eT
  generalize Pg.topOf XF = m at HP ⊢
  generalize Pg.holeOf XT = q at HQ ⊢
  go_enter Try.func40, Try.ntmps40
  go_wp2_with fail
  have kA := k4.out _ (below1 w (.cells #[.int .i64 0, .int .i64 0, .int .i64 0, .int .i64 0] 42))
  refine (HO.out _).mono ?_
  rintro e w' ⟨rfl, rfl⟩
  go_wp2_with fail
  go_quiet ((first
    | (go_at_call 67; exact quiet1 (HL.out _ (belowN (below1 w _) _)))
    | (go_at_call 61; exact quiet1 (HH.out _ (belowN (below1 w _) _)))))
  go_wp2_with fail
  obtain ⟨wb, hwb⟩ : ∃ v, v = (w.alloc (.cells #[.int .i64 0, .int .i64 0, .int .i64 0, .int .i64 0] 42)).drewN nq := ⟨_, rfl⟩
  have BD : Below w.heap.size w wb.drew := by rw [hwb]; exact belowD (belowN (below1 w _) _)
  have ZD : Hid (Pz wb.drew w.heap.size) := Lib.hid (by rw [hwb]; exact (Pz.new w).below (belowD (belowN (Below.refl _ _) _)))
  rw [← hwb]
  have BW : Below w.heap.size w wb := by rw [hwb]; exact belowN (below1 w _) _
  clear hwb kA k4 HL HH HO
  have kW := PK.out _ BW
  have kD := PK.out _ BD
  obtain ⟨P, hP⟩ : ∃ P, P = w.heap.size := ⟨_, rfl⟩
  have EP := Lib.hid hP
  rw [← hP] at ZD ⊢
  clear hP
  have go3 : Hid (∀ v, Below w.heap.size w v → ∀ c0 c1 c2 c3, Below w.heap.size w ((((v.setCell ⟨P, 0, none⟩ c0).setCell ⟨P, 1, none⟩ c1).setCell ⟨P, 2, none⟩ c2).setCell ⟨P, 3, none⟩ c3)) := Lib.hid fun v hv _ _ _ _ => by
    have e : w.heap.size ≤ P := by rw [EP.out]; exact Nat.le_refl _
    exact below_set (below_set (below_set (below_set hv e _) e _) e _) e _
  go_region_held3 (fun v => v.cell? ⟨x.s, 3, none⟩ = some (.map (some x.mm)) ∧ (Instr.lookup 97 (.map (some x.mm)) (.int .i64 f) false).run Try.prog v = .ok (.pointer (some ⟨aF, 0, none⟩)) v ∧ (Instr.lookup 97 (.map (some x.mm)) (.int .i64 t) false).run Try.prog v = .ok (.pointer (some ⟨aT, 0, none⟩)) v)
    (first | with_reducible exact kD | with_reducible exact k3 | with_reducible exact k2 | with_reducible exact kW | exact PK.out _ (go3.out _ B3 _ _ _ _))
    (first
      | (go_at_call 68; refine (HP.out _ ?_).mono ?_; exact BD; rintro e w2 ⟨rfl, b2⟩; have B2 := belowT BD b2; have k2 := PK.out _ B2; have Z2 := Lib.hid (ZD.out.below b2))
      | (go_at_call 69; refine (HQ.out _ ?_).mono ?_; exact B2; rintro e w3 ⟨rfl, b3⟩; have B3 := belowT B2 b3; have k3 := PK.out _ B3; have Z3 := Z2.out.below b3; obtain ⟨z0, z1, z2, z3, y0, y1, y2, y3⟩ := Z3))
  all_goals
    have HB := Lib.hid (go3.out _ B3 (.int .i64 f) (.int .i64 m) (.int .i64 t) (.int .i64 q))
    rename_i hh
    clear hh kW kD k2 k3 B3 go3 PK HP HQ Z2 ZD EP b2 b3 B2 BW BD
    go_wp2
    refine bodyPost_ret (v := planV (some (f, m, t, q))) (by simp [results, Try.results40, go_sem, planV, z0, z1, z2, z3]) rfl ?_
    exact ⟨rfl, HB.out⟩
theorem plan_any (h : Sr w x A lab O fl ps op u) (hw : Sw x.K x.c x.B ⟨O, fl, ps, op⟩) : Calls Try.prog 40 #[.pointer (some ⟨x.s, 0, none⟩)] w (VB (planV (planS ⟨O, fl, ps, op⟩)) w) := by
  unfold planS
  dsimp only
  have k2 := h.pool.k2
  by_cases hl : op.length < 2
  · rw [if_pos hl]
    exact plan_none h hl
  · rw [if_neg hl]
    have hne : op ≠ [] := fun e => by rw [e] at hl; simp at hl
    have h1 : op.getLastD (-1) ∈ op := by
      rw [List.getLastD_eq_getLast?]
      cases q : op.getLast? with
      | none => exact absurd (List.getLast?_eq_none_iff.1 q) hne
      | some v => exact List.mem_of_getLast? q
    have h2 : op.headD (-1) ∈ op := by
      cases op with
      | nil => exact absurd rfl hne
      | cons a r => simp
    obtain ⟨XF, hF, _⟩ := (hw.opm _).1 h1
    obtain ⟨XT, hT, _⟩ := (hw.opm _).1 h2
    have fit : ∀ n, n ∈ op → Pl.Fit n := fun n hn => by
      obtain ⟨k, e, hk, _⟩ := hw.own n (hw.op_num hn)
      exact ⟨by omega, by omega⟩
    have e1 : pageAt ⟨O, fl, ps, op⟩ (op.getLastD (-1)) = XF := by unfold pageAt; rw [mem_get hw.nod hF]; rfl
    have e2 : pageAt ⟨O, fl, ps, op⟩ (op.headD (-1)) = XT := by unfold pageAt; rw [mem_get hw.nod hT]; rfl
    rw [e1, e2]
    exact plan_some h (by omega) rfl rfl hF hT (fit _ h1) (fit _ h2)
end
end Go.Proofs.Ytfkegbipfekbdaa.Sh
