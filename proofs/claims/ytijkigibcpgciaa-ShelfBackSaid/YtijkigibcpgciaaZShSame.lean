import Derived.Test.YtijkigibcpgciaaZShRun
import Derived.Test.YtijkigibcpgciaaZShRefPlan
/-
  Layer 13's 'same': does a shelf, on a pool, tell what the document's tells? It does, if both are the same plain shelf.
-/
namespace Go.Proofs.Ytijkigibcpgciaa.Sh
open Go.ChangeShapes Go.WideShapes Go.ChangeAt Go.RowKit Go.Deep
set_option maxRecDepth 100000

/-- Block q is a Plan. -/
structure P4q (u : World) (q : Nat) (i0 i1 i2 i3 : Int) : Prop where
  c0 : u.cell? ⟨q, 0, none⟩ = some (.int .i64 i0)
  c1 : u.cell? ⟨q, 1, none⟩ = some (.int .i64 i1)
  c2 : u.cell? ⟨q, 2, none⟩ = some (.int .i64 i2)
  c3 : u.cell? ⟨q, 3, none⟩ = some (.int .i64 i3)
theorem P4q.below {u u' : World} {q : Nat} {i0 i1 i2 i3 : Int} (h : P4q u q i0 i1 i2 i3) (hb : Below u.heap.size u u') : P4q u' q i0 i1 i2 i3 := by
  have hl : q < u.heap.size := lt_of_cell (p := ⟨q, 0, none⟩) h.c0
  exact ⟨(hb.cell (p := ⟨q, 0, none⟩) hl).trans h.c0, (hb.cell (p := ⟨q, 1, none⟩) hl).trans h.c1, (hb.cell (p := ⟨q, 2, none⟩) hl).trans h.c2, (hb.cell (p := ⟨q, 3, none⟩) hl).trans h.c3⟩
theorem P4q.new (u : World) (i0 i1 i2 i3 : Int) : P4q (u.alloc (.cells #[.int .i64 i0, .int .i64 i1, .int .i64 i2, .int .i64 i3] 53)) u.heap.size i0 i1 i2 i3 := ⟨by go_simp, by go_simp, by go_simp, by go_simp⟩
theorem all7 {u : World} {q : Nat} {t0 t1 t2 t3 t4 t5 t6 : Value} (h : B7 u q t0 t1 t2 t3 t4 t5 t6) : u.cell? ⟨q, 0, none⟩ = some t0 ∧ u.cell? ⟨q, 1, none⟩ = some t1 ∧ u.cell? ⟨q, 2, none⟩ = some t2 ∧ u.cell? ⟨q, 3, none⟩ = some t3 ∧ u.cell? ⟨q, 4, none⟩ = some t4 ∧ u.cell? ⟨q, 5, none⟩ = some t5 ∧ u.cell? ⟨q, 6, none⟩ = some t6 := ⟨h.c0, h.c1, h.c2, h.c3, h.c4, h.c5, h.c6⟩
section
variable {w : World} {x : Fx} {A : Adr} {lab : Lab} {P : Nat → Prop} {v : Rv} {s : Shl}
set_option maxHeartbeats 4000000 in
theorem same13_any (h : Sm w x A lab s) (hr : Rs w P v s) (hK : x.K ≤ 1000) (hvK : v.K = x.K) (hvB : v.B = (x.B : Int)) :
    Calls Try.prog 15 #[.pointer (some ⟨x.s, 0, none⟩), .pointer (some ⟨x.pp, 0, none⟩), (.agg #[.slice v.oa v.K v.oc, .slice v.fa v.nf v.fc, .int .i64 v.c, .int .i64 v.B, .slice v.na v.N v.nc, .slice v.pa v.N v.pc, .slice v.qa v.M v.qc])] w (BB true w) := by
  have b0 := below1 w (.cells #[.slice v.oa v.K v.oc, .slice v.fa v.nf v.fc, .int .i64 v.c, .int .i64 v.B, .slice v.na v.N v.nc, .slice v.pa v.N v.pc, .slice v.qa v.M v.qc] 36)
  have hB2 := h.sr.b2
  have hN : v.N = s.ps.length := hr.numN
  have hM : v.M = s.op.length := hr.opM
  have hF : v.nf = s.fl.length := hr.pool.free.len.symm
  have A0 := B7.new w (.slice v.oa v.K v.oc) (.slice v.fa v.nf v.fc) (.int .i64 v.c) (.int .i64 v.B) (.slice v.na v.N v.nc) (.slice v.pa v.N v.pc) (.slice v.qa v.M v.qc) 36
  have HO1 : Hid (∀ u, Below w.heap.size w u → ∀ n k, Pl.Fit n → Pl.Fit k → Calls Try.prog 24 #[.pointer (some ⟨x.s, 0, none⟩), .int .i64 n, .int .i64 k] u (R1 (ownerS s n k) u)) := Lib.hid fun u hu n k hn hk => owner_any (h.below hu).sr hn hk
  have HO2 : Hid (∀ u, Below w.heap.size w u → ∀ n k, Calls Try.prog 36 #[(.agg #[.slice v.oa v.K v.oc, .slice v.fa v.nf v.fc, .int .i64 v.c, .int .i64 v.B, .slice v.na v.N v.nc, .slice v.pa v.N v.pc, .slice v.qa v.M v.qc]), .int .i64 n, .int .i64 k] u (IB (ownerS s n k) u)) := Lib.hid fun u hu n k => refShOwner_any (hr.on hu) h.sw.nod n k
  have HP1 : Hid (∀ u, Below w.heap.size w u → Calls Try.prog 23 #[.pointer (some ⟨x.s, 0, none⟩)] u (VB (planV (planS s)) u)) := Lib.hid fun u hu => plan_any (h.below hu).sr h.sw
  have HP2 : Hid (∀ u, Below w.heap.size w u → Calls Try.prog 37 #[(.agg #[.slice v.oa v.K v.oc, .slice v.fa v.nf v.fc, .int .i64 v.c, .int .i64 v.B, .slice v.na v.N v.nc, .slice v.pa v.N v.pc, .slice v.qa v.M v.qc])] u (VB (planV (planS s)) u)) := Lib.hid fun u hu => refShPlan_any (hr.on hu) h.sw hK
  have HG : Hid (∀ u, Below w.heap.size w u → Calls Try.prog 21 #[.pointer (some ⟨x.s, 0, none⟩)] u (R1 (v.N : Int) u)) := Lib.hid fun u hu => by rw [hN]; exact pages_any (h.below hu).sr
  have HQ : Hid (∀ u, Below w.heap.size w u → Calls Try.prog 19 #[.pointer (some ⟨x.s, 0, none⟩)] u (R1 (v.M : Int) u)) := Lib.hid fun u hu => by rw [hM]; exact open_any (h.below hu).sr
  have HU1 : Hid (∀ u, Below w.heap.size w u → Calls Try.prog 20 #[.pointer (some ⟨x.s, 0, none⟩)] u (R1 (usedS s.ps : Int) u)) := Lib.hid fun u hu => used_any (h.below hu).sr
  have HU2 : Hid (∀ u, Below w.heap.size w u → Calls Try.prog 27 #[(.agg #[.slice v.oa v.K v.oc, .slice v.fa v.nf v.fc, .int .i64 v.c, .int .i64 v.B, .slice v.na v.N v.nc, .slice v.pa v.N v.pc, .slice v.qa v.M v.qc])] u (IB (usedS s.ps : Int) u)) := Lib.hid fun u hu => refShUsed_any (hr.on hu) h.sw.len hB2 (by rw [hN]; exact Nat.le_trans h.sw.few (by omega))
  have HFr : Hid (∀ u, Below w.heap.size w u → Calls Try.prog 26 #[.pointer (some ⟨x.pp, 0, none⟩)] u (R1 (v.nf : Int) u)) := Lib.hid fun u hu => by rw [hF]; exact Pl.free_any (h.below hu).sr.pool
  have BT : Hid (∀ u, Below (w.alloc (.cells #[.slice v.oa v.K v.oc, .slice v.fa v.nf v.fc, .int .i64 v.c, .int .i64 v.B, .slice v.na v.N v.nc, .slice v.pa v.N v.pc, .slice v.qa v.M v.qc] 36)).heap.size (w.alloc (.cells #[.slice v.oa v.K v.oc, .slice v.fa v.nf v.fc, .int .i64 v.c, .int .i64 v.B, .slice v.na v.N v.nc, .slice v.pa v.N v.pc, .slice v.qa v.M v.qc] 36)) u → Below w.heap.size w u) := Lib.hid fun u hu => belowT b0 hu
  have PK : Hid (∀ u, Below (w.alloc (.cells #[.slice v.oa v.K v.oc, .slice v.fa v.nf v.fc, .int .i64 v.c, .int .i64 v.B, .slice v.na v.N v.nc, .slice v.pa v.N v.pc, .slice v.qa v.M v.qc] 36)).heap.size (w.alloc (.cells #[.slice v.oa v.K v.oc, .slice v.fa v.nf v.fc, .int .i64 v.c, .int .i64 v.B, .slice v.na v.N v.nc, .slice v.pa v.N v.pc, .slice v.qa v.M v.qc] 36)) u → B7 u w.heap.size (.slice v.oa v.K v.oc) (.slice v.fa v.nf v.fc) (.int .i64 v.c) (.int .i64 v.B) (.slice v.na v.N v.nc) (.slice v.pa v.N v.pc) (.slice v.qa v.M v.qc)) := Lib.hid fun u hu => A0.below hu
  obtain ⟨i0, i1, i2, i3, bb, epl⟩ : ∃ (i0 i1 i2 i3 : Int) (bb : Bool), planV (planS s) = .tuple #[.agg #[.int .i64 i0, .int .i64 i1, .int .i64 i2, .int .i64 i3], .bool bb] := by
    cases planS s with
    | none => exact ⟨0, 0, 0, 0, false, rfl⟩
    | some z => obtain ⟨a, b, c, d⟩ := z; exact ⟨a, b, c, d, true, rfl⟩
  rw [epl] at HP1 HP2
  clear epl
  have kK : v.K ≤ 1000 := by omega
  have kB : 0 ≤ v.B ∧ v.B ≤ 512 := by rw [hvB]; omega
  clear h hr hK hvK hvB b0 hB2 hN hM hF A0
  go_enter Try.func15, Try.ntmps15
  go_wp2
  obtain ⟨w1, e1⟩ : ∃ w1, w1 = w.alloc (.cells #[.slice v.oa v.K v.oc, .slice v.fa v.nf v.fc, .int .i64 v.c, .int .i64 v.B, .slice v.na v.N v.nc, .slice v.pa v.N v.pc, .slice v.qa v.M v.qc] 36) := ⟨_, rfl⟩
  rw [← e1] at BT PK ⊢
  obtain ⟨q, eq⟩ : ∃ q, q = w.heap.size := ⟨_, rfl⟩
  have EQ := Lib.hid eq
  rw [← eq] at PK ⊢
  clear e1 eq
  go_loopw [6, 7, 8] (fun _ n _ wr => ∃ y : Int, -1 ≤ y ∧ y ≤ (v.K : Int) + 1 ∧ n = .int .i64 y ∧ Hid (Below w1.heap.size w1 wr)) (fun _ n _ _ => ((v.K : Int) + 1 - intOf n).toNat)
  case atStart => exact ⟨-1, by omega, by omega, rfl, Lib.hid (Below.refl _ _)⟩
  case round =>
    obtain ⟨y, y0, y1, rfl, HBB⟩ := hrel
    have p0 := (PK.out _ HBB.out).c0
    by_cases hy : y ≤ (v.K : Int)
    · have dy : decide (y ≤ (v.K : Int)) = true := by simpa using hy
      go_wp2
      go_loopw [6, 8] (fun _ n wr => ∃ a : Int, -1 ≤ a ∧ a ≤ v.B + 1 ∧ n = .int .i64 a ∧ Hid (Below w1.heap.size w1 wr)) (fun _ n _ => (v.B + 1 - intOf n).toNat)
      case atStart => exact ⟨-1, by omega, by omega, rfl, HBB⟩
      case round =>
        obtain ⟨a, a0, a1, rfl, HBC⟩ := hrel
        have p3 := (PK.out _ HBC.out).c3
        by_cases ha : a ≤ v.B
        · have da : decide (a ≤ v.B) = true := by simpa using ha
          have wa : IntKind.i64.wrap (a + 1) = a + 1 := IntWalk.i64_in _ (by omega)
          have BD := belowD HBC.out
          have kW := PK.out _ HBC.out
          have kD := PK.out _ BD
          have HOa : Hid (∀ u, Below w1.heap.size w1 u → Calls Try.prog 24 #[.pointer (some ⟨x.s, 0, none⟩), .int .i64 y, .int .i64 a] u (R1 (ownerS s y a) u)) := Lib.hid fun u hu => HO1.out u (BT.out u hu) y a ⟨by omega, by omega⟩ ⟨by omega, by omega⟩
          have HOb : Hid (∀ u, Below w1.heap.size w1 u → Calls Try.prog 36 #[(.agg #[.slice v.oa v.K v.oc, .slice v.fa v.nf v.fc, .int .i64 v.c, .int .i64 v.B, .slice v.na v.N v.nc, .slice v.pa v.N v.pc, .slice v.qa v.M v.qc]), .int .i64 y, .int .i64 a] u (IB (ownerS s y a) u)) := Lib.hid fun u hu => HO2.out u (BT.out u hu) y a
          generalize ownerS s y a = z at HOa HOb
          have t1 : (z != z) = false := by simp
          have kW' := all7 kW
          have kD' := all7 kD
          clear kW kD
          go_wp2_with fail
          go_region_held3 (fun u => u.cell? ⟨q, 0, none⟩ = some (.slice v.oa v.K v.oc) ∧ u.cell? ⟨q, 1, none⟩ = some (.slice v.fa v.nf v.fc) ∧ u.cell? ⟨q, 2, none⟩ = some (.int .i64 v.c) ∧ u.cell? ⟨q, 3, none⟩ = some (.int .i64 v.B) ∧ u.cell? ⟨q, 4, none⟩ = some (.slice v.na v.N v.nc) ∧ u.cell? ⟨q, 5, none⟩ = some (.slice v.pa v.N v.pc) ∧ u.cell? ⟨q, 6, none⟩ = some (.slice v.qa v.M v.qc))
            (first | with_reducible exact kD' | with_reducible exact k2 | with_reducible exact kW')
            (first
              | (go_at_call 24; refine (HOa.out _ ?_).mono ?_; (first | exact BD | exact B2); rintro e w3 ⟨rfl, rfl⟩)
              | (go_at_call 36; refine (HOb.out _ ?_).mono ?_; (first | exact BD); rintro e w2 ⟨rfl, b2⟩; have B2 := belowT BD b2; have k2 := all7 (PK.out _ B2)))
          all_goals
            have HB2 := Lib.hid B2
            clear kD' k2 kW' B2 b2 BD
            go_wp2
            go_roundw
            case rel => exact ⟨a + 1, by omega, by omega, by go_num, HB2⟩
            case measure => simp [intOf]; omega
        · have da : decide (a ≤ v.B) = false := by simpa using ha
          have wy : IntKind.i64.wrap (y + 1) = y + 1 := IntWalk.i64_in _ (by omega)
          go_wp2
          go_roundw
          case rel => exact ⟨y + 1, by omega, by omega, by go_num, HBC⟩
          case measure => simp [intOf]; omega
    · have dy : decide (y ≤ (v.K : Int)) = false := by simpa using hy
      go_wp2_with fail
      refine (HP1.out _ (BT.out _ HBB.out)).mono ?_
      rintro e w2 ⟨rfl, b2⟩
      have B2 := belowT HBB.out b2
      have B3 := belowT B2 (below1 w2 (.cells #[.int .i64 i0, .int .i64 i1, .int .i64 i2, .int .i64 i3] 53))
      have k3 := all7 (PK.out _ B3)
      have L3 : Hid (P4q (w2.alloc (.cells #[.int .i64 i0, .int .i64 i1, .int .i64 i2, .int .i64 i3] 53)) w2.heap.size i0 i1 i2 i3) := Lib.hid (P4q.new w2 i0 i1 i2 i3)
      clear b2 B2 p0
      go_wp2_with fail
      refine (HP2.out _ (BT.out _ B3)).mono ?_
      rintro e w4 ⟨rfl, b4⟩
      have B4 := belowT B3 b4
      have B5 := belowT B4 (below1 w4 (.cells #[.int .i64 i0, .int .i64 i1, .int .i64 i2, .int .i64 i3] 53))
      have L5 := (L3.out.below b4).below (below1 w4 (.cells #[.int .i64 i0, .int .i64 i1, .int .i64 i2, .int .i64 i3] 53))
      have M5 := P4q.new w4 i0 i1 i2 i3
      have PK5 : Hid (∀ u, Below (w4.alloc (.cells #[.int .i64 i0, .int .i64 i1, .int .i64 i2, .int .i64 i3] 53)).heap.size (w4.alloc (.cells #[.int .i64 i0, .int .i64 i1, .int .i64 i2, .int .i64 i3] 53)) u → (u.cell? ⟨q, 0, none⟩ = some (.slice v.oa v.K v.oc) ∧ u.cell? ⟨q, 1, none⟩ = some (.slice v.fa v.nf v.fc) ∧ u.cell? ⟨q, 2, none⟩ = some (.int .i64 v.c) ∧ u.cell? ⟨q, 3, none⟩ = some (.int .i64 v.B) ∧ u.cell? ⟨q, 4, none⟩ = some (.slice v.na v.N v.nc) ∧ u.cell? ⟨q, 5, none⟩ = some (.slice v.pa v.N v.pc) ∧ u.cell? ⟨q, 6, none⟩ = some (.slice v.qa v.M v.qc)) ∧ (u.cell? ⟨w2.heap.size, 0, none⟩ = some (.int .i64 i0) ∧ u.cell? ⟨w2.heap.size, 1, none⟩ = some (.int .i64 i1) ∧ u.cell? ⟨w2.heap.size, 2, none⟩ = some (.int .i64 i2) ∧ u.cell? ⟨w2.heap.size, 3, none⟩ = some (.int .i64 i3)) ∧ u.cell? ⟨w4.heap.size, 0, none⟩ = some (.int .i64 i0) ∧ u.cell? ⟨w4.heap.size, 1, none⟩ = some (.int .i64 i1) ∧ u.cell? ⟨w4.heap.size, 2, none⟩ = some (.int .i64 i2) ∧ u.cell? ⟨w4.heap.size, 3, none⟩ = some (.int .i64 i3)) := Lib.hid fun u hu => by
        obtain ⟨s0, s1, s2, s3, s4, s5, s6⟩ := all7 (PK.out u (belowT B5 hu))
        obtain ⟨l0, l1, l2, l3⟩ := L5.below hu
        obtain ⟨m0, m1, m2, m3⟩ := M5.below hu
        exact ⟨⟨s0, s1, s2, s3, s4, s5, s6⟩, ⟨l0, l1, l2, l3⟩, m0, m1, m2, m3⟩
      have HB5 := Lib.hid B5
      have BD : Below (w4.alloc (.cells #[.int .i64 i0, .int .i64 i1, .int .i64 i2, .int .i64 i3] 53)).heap.size (w4.alloc (.cells #[.int .i64 i0, .int .i64 i1, .int .i64 i2, .int .i64 i3] 53)) (w4.alloc (.cells #[.int .i64 i0, .int .i64 i1, .int .i64 i2, .int .i64 i3] 53)).drew := belowD (Below.refl _ _)
      have kW := PK5.out _ (Below.refl _ _)
      have kD := PK5.out _ BD
      have BT5 : Hid (∀ u, Below (w4.alloc (.cells #[.int .i64 i0, .int .i64 i1, .int .i64 i2, .int .i64 i3] 53)).heap.size (w4.alloc (.cells #[.int .i64 i0, .int .i64 i1, .int .i64 i2, .int .i64 i3] 53)) u → Below w.heap.size w u) := Lib.hid fun u hu => BT.out _ (belowT HB5.out hu)
      obtain ⟨w5, e5⟩ : ∃ w5, w5 = w4.alloc (.cells #[.int .i64 i0, .int .i64 i1, .int .i64 i2, .int .i64 i3] 53) := ⟨_, rfl⟩
      have E5 := Lib.hid e5
      clear k3 L3 B3 b4 B4 B5 L5 M5 PK
      go_wp2_with fail
      rw [← E5.out]
      rw [← e5] at PK5 BD kW kD BT5
      clear e5
      go_region_held3 (fun u => (u.cell? ⟨q, 0, none⟩ = some (.slice v.oa v.K v.oc) ∧ u.cell? ⟨q, 1, none⟩ = some (.slice v.fa v.nf v.fc) ∧ u.cell? ⟨q, 2, none⟩ = some (.int .i64 v.c) ∧ u.cell? ⟨q, 3, none⟩ = some (.int .i64 v.B) ∧ u.cell? ⟨q, 4, none⟩ = some (.slice v.na v.N v.nc) ∧ u.cell? ⟨q, 5, none⟩ = some (.slice v.pa v.N v.pc) ∧ u.cell? ⟨q, 6, none⟩ = some (.slice v.qa v.M v.qc)) ∧ (u.cell? ⟨w2.heap.size, 0, none⟩ = some (.int .i64 i0) ∧ u.cell? ⟨w2.heap.size, 1, none⟩ = some (.int .i64 i1) ∧ u.cell? ⟨w2.heap.size, 2, none⟩ = some (.int .i64 i2) ∧ u.cell? ⟨w2.heap.size, 3, none⟩ = some (.int .i64 i3)) ∧ u.cell? ⟨w4.heap.size, 0, none⟩ = some (.int .i64 i0) ∧ u.cell? ⟨w4.heap.size, 1, none⟩ = some (.int .i64 i1) ∧ u.cell? ⟨w4.heap.size, 2, none⟩ = some (.int .i64 i2) ∧ u.cell? ⟨w4.heap.size, 3, none⟩ = some (.int .i64 i3))
        (first | with_reducible exact kD | with_reducible exact k6 | with_reducible exact kW)
        (first
          | (go_at_call 21; refine (HG.out _ ?_).mono ?_; exact BT5.out _ BD; rintro e w7 ⟨rfl, rfl⟩)
          | (go_at_call 19; refine (HQ.out _ ?_).mono ?_; exact BT5.out _ BD; rintro e w7 ⟨rfl, rfl⟩)
          | (go_at_call 20; refine (HU1.out _ ?_).mono ?_; exact BT5.out _ BD; rintro e w7 ⟨rfl, rfl⟩)
          | (go_at_call 27; refine (HU2.out _ ?_).mono ?_; exact BT5.out _ BD; rintro e w6 ⟨rfl, b6⟩; have B6 := belowT BD b6; have k6 := PK5.out _ B6)
          | (go_at_call 26; refine (HFr.out _ ?_).mono ?_; exact BT5.out _ B6; rintro e w7 ⟨rfl, rfl⟩))
      all_goals
        have HE := Lib.hid (BT5.out _ B6)
        clear kD kW k6 BD B6 b6 PK5
        go_wp2
        go_ret
        exact ⟨by first | rfl | (simp; done), HE.out⟩
end
end Go.Proofs.Ytijkigibcpgciaa.Sh
