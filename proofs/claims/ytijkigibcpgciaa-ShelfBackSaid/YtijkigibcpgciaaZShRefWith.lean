import Derived.Test.YtijkigibcpgciaaZShRefFind
/-
  Appends of rows of ints; and the document's own answer for package shelf: with.
-/
namespace Go.Proofs.Ytijkigibcpgciaa.Sh
open Go.ChangeShapes Go.WideShapes Go.ChangeAt Go.RowKit Go.Deep
set_option maxRecDepth 100000

theorem infoRow : (Try.prog.info? 31).map (fun i => (i.zero, i.size, i.bytes)) = some (some (.slice none 0 0), 1, 24) := by kernel_rfl
theorem run_append_noneR (w : World) (b : Option Addr) (n cap : Nat) (c : Nat) (ty : TypeId) (h : n ≤ cap) :
    (Builtin.append_ #[34, 34] ty #[.slice b n cap, .slice none 0 c]).run Try.prog w = .ok (.slice b n cap) w := by
  obtain ⟨i0, hi, hz0, hz1, hz2⟩ := info_parts infoRow
  cases b <;> simp [Builtin.append_, run_underlying Try.underlying34, sizeOf, typeInfo, hi, Builtin.lenOf, h, run_firstCells_none, storeCells]
/-- Where values stand. -/
def Src (w : World) (a : Option Addr) (m : Nat) (ys : List Value) : Prop := ys.length = m ∧ (0 < m → ∃ b o, a = some ⟨b, o, none⟩ ∧ ∀ (j : Nat) (u : Value), ys[j]? = some u → w.cell? ⟨b, o + j, none⟩ = some u)
section
variable {w : World} {base g n cap m c : Nat} {xs ys : List Value} {al : Option Addr}
/-- A row of the call's own grows by the values of another one. -/
theorem app_vals (hown : w.ownsRow base 31 1 (.slice (some ⟨g, 0, none⟩) n cap) n xs) (hy : Src w al m ys) (h1 : ∀ u ∈ ys, u.oneCell' = true) (hb : base ≤ w.heap.size) (hm : n + m ≤ 1000000) (ty : TypeId) :
    ∃ g' cap' w', (Builtin.append_ #[34, 34] ty #[.slice (some ⟨g, 0, none⟩) n cap, .slice al m c]).run Try.prog w = .ok (.slice (some ⟨g', 0, none⟩) (n + m) cap') w' ∧
      w'.ownsRow base 31 1 (.slice (some ⟨g', 0, none⟩) (n + m) cap') (n + m) (xs ++ ys) ∧ Below base w w' := by
  obtain ⟨i0, hi, hz0, hz1, hz2⟩ := info_parts infoRow
  have hg := hown.lt g rfl
  have hcap : n ≤ cap := by
    rcases hown.2 with ⟨e, _⟩ | ⟨g', cap', cur, hv, _, _, hc, _⟩
    · cases e
    · injection hv with _ _ e3
      omega
  by_cases h0 : al = none
  · subst h0
    have hm0 : m = 0 := by
      rcases Nat.eq_zero_or_pos m with e | e
      · exact e
      · obtain ⟨b, o, e, _⟩ := hy.2 e
        cases e
    have hys : ys = [] := List.length_eq_zero_iff.1 (by rw [hy.1]; exact hm0)
    subst hm0 hys
    refine ⟨g, cap, w, run_append_noneR w _ n cap c ty hcap, ?_, Below.refl _ _⟩
    rw [List.append_nil, Nat.add_zero]
    exact hown
  · obtain ⟨ad, rfl⟩ : ∃ ad, al = some ad := by
      cases al with
      | none => exact absurd rfl h0
      | some ad => exact ⟨ad, rfl⟩
    obtain ⟨v', w', hr, h2, h3, _, h5⟩ := run_append_own_at (P := Try.prog) w base 34 ty 31 i0 (.slice none 0 0) 1 24 Try.underlying34 hi hz0 hz1 hz2 rfl Nat.one_pos (.slice (some ⟨g, 0, none⟩) n cap) n xs hown ad m c ys (by simp [hy.1])
      (fun j u hu => by
        have hj : j < ys.length := (List.getElem?_eq_some_iff.1 hu).1
        obtain ⟨b, o, e, hc⟩ := hy.2 (by have := hy.1; omega)
        injection e with e
        subst e
        have := hc j u hu
        by_cases h0 : j = 0
        · subst h0; simpa [Addr.add] using this
        · simpa [Addr.add, h0] using this)
      h1 (by unfold maxLen; omega) (by omega) hb
    have hv : ∃ g' cap', v' = .slice (some ⟨g', 0, none⟩) (n + m) cap' := by
      rcases h2.2 with ⟨e, _⟩ | ⟨g', cap', _, hv, _⟩
      · subst e
        rcases h5 with h5 | h5 <;> simp [Value.ownBlock] at h5
      · exact ⟨g', cap', hv⟩
    obtain ⟨g', cap', rfl⟩ := hv
    exact ⟨g', cap', w', hr, h2, Below.grown (Below.refl _ _) h3 hb (fun k hk => by simp [Value.ownBlock] at hk; omega)⟩
end
section
variable {w w' : World} {P : Nat → Prop} {a : Option Addr} {n c : Nat} {rs : List (Value × List Int)} {u : Value} {X : List Int}
theorem Row.one (h : Row w P u X) : u.oneCell' = true := by
  obtain ⟨g, cap, rfl, _⟩ := h
  rfl
theorem Pp.src (h : Pp w P a n c rs) : Src w a n (rs.map (·.1)) := by
  refine ⟨by rw [List.length_map]; exact h.len, fun q => ?_⟩
  obtain ⟨b, o, e, _, _, hc⟩ := h.blk q
  refine ⟨b, o, e, fun j u hu => ?_⟩
  rw [List.getElem?_map] at hu
  cases hr : rs[j]? with
  | none => rw [hr] at hu; cases hu
  | some r =>
    rw [hr] at hu
    simp at hu
    rw [← hu]
    exact hc j r hr
theorem Pp.ones (h : Pp w P a n c rs) : ∀ u ∈ rs.map (·.1), u.oneCell' = true := fun u hu => by
  obtain ⟨q, hq, rfl⟩ := List.mem_map.1 hu
  exact (h.row q hq).one
/-- An empty row of the call's own. -/
theorem own_empty (w : World) (t : TypeId) : (w.alloc (.cells #[] t)).ownsRow w.heap.size t 1 (.slice (some ⟨w.heap.size, 0, none⟩) 0 0) 0 [] := World.ownsRow_lit w #[] 0 (Nat.le_refl _) (by unfold maxLen; omega) rfl
/-- A row of the call's own, as what stands in it. -/
theorem own_cells {base g cap n : Nat} {xs : List Value} (h : w.ownsRow base 31 1 (.slice (some ⟨g, 0, none⟩) n cap) n xs) : xs.length = n ∧ n ≤ cap ∧ base ≤ g ∧ g < w.heap.size ∧ (∀ (k : Nat) (u : Value), xs[k]? = some u → w.cell? ⟨g, k, none⟩ = some u) ∧ (∀ j, w.frozen? ⟨g, j, none⟩ = false) := by
  have hg := h.lt g rfl
  have hl : xs.length = n := by have := h.1; rwa [Nat.mul_one] at this
  have hcap : n ≤ cap := by
    rcases h.2 with ⟨e, _⟩ | ⟨g', cap', cur, hv, _, _, hc, _⟩
    · cases e
    · injection hv with _ _ e3
      omega
  refine ⟨hl, hcap, hg.1, hg.2, fun k u hu => ?_, fun j => h.frozenAt j⟩
  have hk := (List.getElem?_eq_some_iff.1 hu).1
  rw [h.cellAt k (by omega)]
  exact hu
theorem Pp.fin {g cap : Nat} (hl : rs.length = n) (hcap : n ≤ cap) (hr : ∀ q ∈ rs, Row w P q.1 q.2) (hP : P g) (hg : g < w.heap.size) (hc : ∀ (k : Nat) (q : Value × List Int), rs[k]? = some q → w.cell? ⟨g, k, none⟩ = some q.1) : Pp w P (some ⟨g, 0, none⟩) n cap rs :=
  ⟨hl, hcap, hr, fun _ => ⟨g, 0, rfl, hP, hg, fun k q hq => by rw [Nat.zero_add]; exact hc k q hq⟩⟩
end

/-! ### with -/
/-- A block of a shelf that is all zero. -/
def zero7 : Obj := .cells #[.slice none 0 0, .slice none 0 0, .int .i64 0, .int .i64 0, .slice none 0 0, .slice none 0 0, .slice none 0 0] 36
section
variable {w : World} {P : Nat → Prop} {rs : List (Value × List Int)} {u : Value} {X : List Int}
/-- The memory that each of the document's functions makes first: its argument, and its result. -/
structure Two (w wA : World) (v : Rv) (q0 q1 : Nat) : Prop where
  a : Bs wA q0 v
  r : B7 wA q1 (.slice none 0 0) (.slice none 0 0) (.int .i64 0) (.int .i64 0) (.slice none 0 0) (.slice none 0 0) (.slice none 0 0)
  below : Below w.heap.size w wA
  l0 : w.heap.size ≤ q0
  l1 : w.heap.size ≤ q1
  ne : q0 ≠ q1
theorem Two.new (w : World) (v : Rv) : Two w ((w.alloc (.cells #[.slice v.oa v.K v.oc, .slice v.fa v.nf v.fc, .int .i64 v.c, .int .i64 v.B, .slice v.na v.N v.nc, .slice v.pa v.N v.pc, .slice v.qa v.M v.qc] 36)).alloc (.cells #[.slice none 0 0, .slice none 0 0, .int .i64 0, .int .i64 0, .slice none 0 0, .slice none 0 0, .slice none 0 0] 36)) v w.heap.size (w.heap.size + 1) := by
  refine ⟨(B7.new w _ _ _ _ _ _ _ _).below (below1 _ _), ?_, below2 w _ _, Nat.le_refl _, by omega, by omega⟩
  have := B7.new (w.alloc (.cells #[.slice v.oa v.K v.oc, .slice v.fa v.nf v.fc, .int .i64 v.c, .int .i64 v.B, .slice v.na v.N v.nc, .slice v.pa v.N v.pc, .slice v.qa v.M v.qc] 36)) (.slice none 0 0) (.slice none 0 0) (.int .i64 0) (.int .i64 0) (.slice none 0 0) (.slice none 0 0) (.slice none 0 0) 36
  simpa using this
theorem Two.on {wA wB : World} {v : Rv} {q0 q1 : Nat} (h : Two w wA v q0 q1) (hb : Below wA.heap.size wA wB) : Two w wB v q0 q1 := ⟨B7.below h.a hb, h.r.below hb, belowT h.below hb, h.l0, h.l1, h.ne⟩
set_option maxHeartbeats 400000 in
theorem refWith_any (v : Rv) (h : Pp w P v.pa v.N v.pc rs) (hN : v.N ≤ 100000) (up : Up w P) (i : Nat) (hi : i < v.N) (hu : Row w P u X) :
    Calls Try.prog 60 #[(.agg #[.slice v.oa v.K v.oc, .slice v.fa v.nf v.fc, .int .i64 v.c, .int .i64 v.B, .slice v.na v.N v.nc, .slice v.pa v.N v.pc, .slice v.qa v.M v.qc]), .int .i64 (i : Int), u] w fun e w' => ∃ g cap, e = .returned (.agg #[.slice v.oa v.K v.oc, .slice v.fa v.nf v.fc, .int .i64 v.c, .int .i64 v.B, .slice v.na v.N v.nc, .slice (some ⟨g, 0, none⟩) v.N cap, .slice v.qa v.M v.qc]) ∧ Pp w' P (some ⟨g, 0, none⟩) v.N cap (rs.set i (u, X)) ∧ Below w.heap.size w w' := by
  have hu' := hu
  obtain ⟨gr, cr, eu, _⟩ := hu'
  have T0 := Two.new w v
  obtain ⟨wA, eA⟩ : ∃ wA, wA = (w.alloc (.cells #[.slice v.oa v.K v.oc, .slice v.fa v.nf v.fc, .int .i64 v.c, .int .i64 v.B, .slice v.na v.N v.nc, .slice v.pa v.N v.pc, .slice v.qa v.M v.qc] 36)).alloc (.cells #[.slice none 0 0, .slice none 0 0, .int .i64 0, .int .i64 0, .slice none 0 0, .slice none 0 0, .slice none 0 0] 36) := ⟨_, rfl⟩
  rw [← eA] at T0
  obtain ⟨q0, e0⟩ : ∃ q, q = w.heap.size := ⟨_, rfl⟩
  obtain ⟨q1, e1⟩ : ∃ q, q = w.heap.size + 1 := ⟨_, rfl⟩
  rw [← e1, ← e0] at T0
  have wAs : wA.heap.size = w.heap.size + 2 := by rw [eA]; simp
  have hA := (h.on T0.below)
  obtain ⟨g, cap, w2, hr, ho, hb⟩ := app_vals (c := v.pc) (own_empty wA 31) (show Src (wA.alloc (.cells #[] 31)) v.pa v.N (rs.map (·.1)) from (hA.on (below1 wA _)).src) hA.ones (by simp) (by omega) 34
  rw [Nat.zero_add] at hr ho
  rw [List.nil_append] at ho
  obtain ⟨oc1, oc2, oc3, oc4, oc5, oc6⟩ := own_cells ho
  have bA2 : Below wA.heap.size wA w2 := ⟨hb.os, hb.tape, hb.output, Nat.le_trans (by simp) hb.size, fun k hk => (hb.block k hk).trans (Below.heap_alloc _ _ _ hk)⟩
  have T2 := T0.on bA2
  have hil : i < (rs.map (·.1)).length := by rw [oc1]; exact hi
  have ci : w2.cell? ⟨g, i, none⟩ = some (rs.map (·.1))[i] := oc5 i _ (List.getElem?_eq_getElem hil)
  have fi := oc6 i
  -- the stores
  have b3 := cell_but w2 g i u
  have A3 : Bs (w2.setCell ⟨g, i, none⟩ u) q0 v := B7.but T2.a b3 (fun e => by omega)
  have R3 := T2.r.but b3 (fun e => by omega)
  have b4 := cell_but (w2.setCell ⟨g, i, none⟩ u) q0 5 (.slice (some ⟨g, 0, none⟩) v.N cap)
  have A4 := B7.set5 A3 (.slice (some ⟨g, 0, none⟩) v.N cap)
  have R4 := R3.but b4 (fun e => T0.ne e.symm)
  have R5 := R4.set (t0 := .slice v.oa v.K v.oc) (t1 := .slice v.fa v.nf v.fc) (t2 := .int .i64 v.c) (t3 := .int .i64 v.B) (t4 := .slice v.na v.N v.nc) (t5 := .slice (some ⟨g, 0, none⟩) v.N cap) (t6 := .slice v.qa v.M v.qc)
  have b5 := set7_but (t0 := .slice v.oa v.K v.oc) (t1 := .slice v.fa v.nf v.fc) (t2 := .int .i64 v.c) (t3 := .int .i64 v.B) (t4 := .slice v.na v.N v.nc) (t5 := .slice (some ⟨g, 0, none⟩) v.N cap) (t6 := .slice v.qa v.M v.qc) ((w2.setCell ⟨g, i, none⟩ u).setCell ⟨q0, 5, none⟩ (.slice (some ⟨g, 0, none⟩) v.N cap)) q1
  obtain ⟨w5, e5⟩ : ∃ w5, w5 = set7 ((w2.setCell ⟨g, i, none⟩ u).setCell ⟨q0, 5, none⟩ (.slice (some ⟨g, 0, none⟩) v.N cap)) q1 (.slice v.oa v.K v.oc) (.slice v.fa v.nf v.fc) (.int .i64 v.c) (.int .i64 v.B) (.slice v.na v.N v.nc) (.slice (some ⟨g, 0, none⟩) v.N cap) (.slice v.qa v.M v.qc) := ⟨_, rfl⟩
  rw [← e5] at R5 b5
  have S2 := T2.below.size
  have bw5 : Below w.heap.size w w5 := (T2.below.trans (b3.one S2 (by omega))).trans ((b4.one (Nat.le_trans S2 b3.size) T0.l0).trans (b5.one (Nat.le_trans S2 (Nat.le_trans b3.size b4.size)) T0.l1))
  have FIN : Hid (Pp w5 P (some ⟨g, 0, none⟩) v.N cap (rs.set i (u, X)) ∧ Below w.heap.size w w5) := Lib.hid ⟨by
    have hgs : g < w5.heap.size := Nat.lt_of_lt_of_le oc4 (Nat.le_trans b3.size (Nat.le_trans b4.size b5.size))
    refine Pp.fin (by rw [List.length_set]; exact h.len) oc2 (fun q hq => ?_) (up g (by omega)) hgs (fun k q hq => ?_)
    · rcases List.mem_or_eq_of_mem_set hq with z | z
      · exact (h.row q z).but (Below.but bw5 _)
      · rw [z]; exact hu.but (Below.but bw5 _)
    · have l3 : g < (w2.setCell ⟨g, i, none⟩ u).heap.size := Nat.lt_of_lt_of_le oc4 b3.size
      rw [b5.cell (p := ⟨g, k, none⟩) (Nat.lt_of_lt_of_le l3 b4.size) (fun e => by simp only at e; omega), b4.cell (p := ⟨g, k, none⟩) l3 (fun e => by simp only at e; omega)]
      by_cases z : i = k
      · subst z
        rw [List.getElem?_set_self (by rw [h.len]; exact hi)] at hq
        cases hq
        exact World.cell?_setCell_same w2 _ _ ci
      · rw [List.getElem?_set_ne z] at hq
        rw [World.cell?_setCell_other _ _ _ _ (fun e => z (by injection e))]
        exact oc5 k q.1 (by rw [List.getElem?_map, hq]; rfl), bw5⟩
  have wAs' : wA.heap.size = w.heap.size + 1 + 1 := wAs
  rw [wAs', eA] at hr
  have R := Lib.hid hr
  have T2a := T2.a
  have T2r := T2.r
  have n1 := T0.ne
  unfold Bs at T2a
  rw [e5] at FIN
  unfold set7 at FIN
  rw [e0] at T2a FIN n1
  rw [e1] at T2r FIN n1
  obtain ⟨x0, x1, x2, x3, x4, x5, x6, -, -, -, -, -, xf5, -⟩ := T2a
  obtain ⟨z0, z1, z2, z3, z4, z5, z6, g0, g1, g2, g3, g4, g5, g6⟩ := T2r
  have n2 : ¬ g = w.heap.size := by omega
  have n3 : ¬ g = w.heap.size + 1 := by omega
  have n4 : ¬ w.heap.size = g := by omega
  have n5 : ¬ w.heap.size + 1 = g := by omega
  clear hu
  subst eu
  clear h up hA hr ho hb oc1 oc2 oc3 oc4 oc5 oc6 bA2 T2 b3 A3 R3 b4 b5 S2 bw5 eA e0 e1 e5 T0 R5 A4 R4 wAs wAs'
  go_enter Try.func60, Try.ntmps60
  go_wp2_with (at_builtin; refine wpList_append_run rfl _ _ rfl rfl rfl rfl R.out ?_)
  refine bodyPost_ret (v := .agg #[.slice v.oa v.K v.oc, .slice v.fa v.nf v.fc, .int .i64 v.c, .int .i64 v.B, .slice v.na v.N v.nc, .slice (some ⟨g, 0, none⟩) v.N cap, .slice v.qa v.M v.qc]) (by simp [results, Try.results60, go_sem, z0, z1, z2, z3, z4, z5, z6]) rfl ?_
  exact ⟨g, cap, rfl, FIN.out⟩
end
end Go.Proofs.Ytijkigibcpgciaa.Sh
