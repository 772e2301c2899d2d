/-
  The iterator of package plan keeps its word: it tells counts behind moves, until fewer than two are left.
-/
import Derived.Test.YtghlngdmcfconaaPlanBehind
import Derived.Laws.Cover1
namespace Go.Proofs.Ytghlngdmcfconaa
open Go.ChangeShapes Go.WideShapes Go.ChangeAt Go.RowKit Go.Deep Go.Shelf

/-- The least one of three ints, as a law for the walk. -/
theorem wpList_min3 {ts : Array TypeId} {w : World} {ops : Array Oper} {rest : List Oper} {o : Oper} {a : Act} {Q : Exit → Act → World → Prop} {x y z m : Int} (hgd : o.guard = none) (s1 s2 s3 : Operand)
    (ho : o.op = .call { callee := .builtin .min, args := #[s1, s2, s3], argTypes := ts }) (h1 : a.eval s1 = .int .i64 x) (h2 : a.eval s2 = .int .i64 y) (h3 : a.eval s3 = .int .i64 z)
    (hm : min x (min y z) = m) (h : wpList Try.prog ops Q rest (a.put o.dst (.int .i64 m)) w) : wpList Try.prog ops Q (o :: rest) a w := by
  refine wpList_plain hgd fun K hK => ?_
  have e : (if z < (if y < x then y else x) then z else (if y < x then y else x)) = m := by
    rw [← hm]
    split <;> split <;> omega
  have hrun : (Builtin.min_ ts o.type #[.int .i64 x, .int .i64 y, .int .i64 z]).run Try.prog w = .ok (.int .i64 m) w := by rw [run_min_int3, e]
  unfold Oper.wp
  simp [execOp, ho, resolve, invoke, builtin, h1, h2, h3, hrun, Result.andThen]
  exact hK _ _ h
/-- The first one, and the last one, of a list in memory. -/
theorem two_cells {w : World} {B g o L : Nat} {x y : Int} {mid : List Int} (h : Ints w B (some ⟨g, o, none⟩) (L + 1) (x :: (mid ++ [y]))) : w.cell? ⟨g, o, none⟩ = some (.int .i64 x) ∧ w.cell? ⟨g, o + L, none⟩ = some (.int .i64 y) := by
  have hl := h.len
  simp only [List.length_cons, List.length_append, List.length_nil] at hl
  obtain ⟨g', o', e, hb, hc⟩ := h.head (by omega)
  injection e with e
  injection e with e1 e2
  subst e1 e2
  refine ⟨hc 0 x rfl, hc L y ?_⟩
  obtain rfl : L = mid.length + 1 := by omega
  rw [List.getElem?_cons_succ, List.getElem?_append_right (Nat.le_refl _)]
  simp

/-- How much is left of a slice: 20 for each of its numbers, and the last one. -/
def meas : Value → World → Nat
  | .slice (some p) (n + 1) _, w => 20 * (n + 1) + (intOf ((w.cell? ⟨p.block, p.off + n, none⟩).getD undef)).toNat
  | _, _ => 0
theorem meas_at {w : World} {B g o n c : Nat} {xs : List Int} {z : Int} (h : Ints w B (some ⟨g, o, none⟩) (n + 1) xs) (hz : xs[n]? = some z) : meas (.slice (some ⟨g, o, none⟩) (n + 1) c) w = 20 * (n + 1) + z.toNat := by
  obtain ⟨g', o', e, hb, hc⟩ := h.head (by omega)
  injection e with e
  injection e with e1 e2
  subst e1 e2
  simp [meas, hc n z hz, intOf]
theorem meas_lt {w : World} {B n c : Nat} {a : Option Addr} {b : Int} {ys : List Int} (h : Ints w B a n ys) (hs : Sm b ys) : meas (.slice a n c) w < 20 * n + 20 := by
  match n, h with
  | 0, _ => cases a <;> simp [meas]
  | n + 1, h =>
    obtain ⟨g, o, rfl, _, _⟩ := h.head (by omega)
    obtain ⟨z, hz, _, _⟩ := h.at_ (k := n) (by omega)
    rw [meas_at h hz]
    have := mayL_at hs.may hz
    have := hs.blk
    omega
theorem Yl.made {b most m x y u z : Int} {mid ys : List Int} {B N3 c : Nat} {a : Option Addr} {W : World} (hs : Sm b (x :: (mid ++ [y]))) (h1 : 1 ≤ most) (hm : min most (min (b - x) y) = m) (hl : ys.length = N3) (hu : x + m = u) (hz : y - m = z) (hys : ys = ends b u mid z)
    (hi : Ints W W.heap.size a N3 ys) (ho : Own1 W B a N3 c) : Yl b most B (x :: (mid ++ [y])) #[.int .i64 m, .slice a N3 c] ys W := by
  subst hu hz
  obtain ⟨hx, hmm, hy⟩ := may_parts hs.may
  have e : min most (amt b (x :: (mid ++ [y]))) = m := by rw [amt_eq]; exact hm
  have hlen := hs.len
  refine ⟨by simp, hs, ⟨?_, hs.blk, ?_⟩, by rw [e, stepL_eq]; exact hys, a, c, by rw [e, hl], by rw [hl]; exact hi, by rw [hl]; exact ho⟩
  · rw [hys, ends_length]
    simp only [List.length_cons, List.length_append, List.length_nil] at hlen
    split <;> split <;> omega
  · rw [hys]
    exact ends_may hmm (by omega) (by omega)

set_option maxRecDepth 100000 in
set_option maxHeartbeats 2000000 in
theorem behind_seq {a : Option Addr} {n c : Nat} {b most : Int} {xs0 : List Int} {p N : Nat} {w0 : World} (hx : Bx w0 p a n c b most) (hi : Ints w0 w0.heap.size a n xs0) (hs : Sm b xs0) (hm : 1 ≤ most ∧ most ≤ 9223372036854775807) (hN : N ≤ p) :
    Seq Try.prog 23 (bound p) (Yl b most) (fun xs => xs.length < 2) xs0 N w0 := by
  intro l J Jx W hW hl1 hl2 hJ hY h0
  refine callsIn_of_wp Try.func23 rfl trivial ?_ rfl
  refine wpIn_wide.2 ?_
  have hlt := hx.lt
  have bx : Bx W p a n c b most := hx.but (Below.but hW (fun _ => False)) (fun _ _ _ => id)
  have iW : Ints W W.heap.size a n xs0 := hi.on hW
  have hn : n ≤ 12 := by rw [← hi.len]; exact hs.len
  have HM : Hid (∀ v, Ints v W.heap.size a n xs0 → Calls Try.prog 9 #[.slice a n c, .int .i64 b] v (B1 true v)) := Lib.hid fun v hv => by
    have := may_any a n c xs0 b _ v hv
    rwa [hs.may] at this
  have HC := Lib.hid (clone_any a n c xs0 W iW (by omega))
  have HI := Lib.hid iW
  have BX := Lib.hid bx
  have k1 := bx.cnt
  have k2 := bx.blk
  have HS := Lib.hid hs
  have HX := Lib.hid hx
  have HJ0 := Lib.hid h0
  have HJ := Lib.hid hJ
  have HY := Lib.hid hY
  clear hi iW bx hs hx h0 hJ hY
  simp only [bound, Try.ntmps23, List.size_toArray, List.length_cons, List.length_nil, Nat.reduceAdd, Nat.reduceSub, Array.replicate_succ, Array.replicate_zero, List.push_toArray, List.append_toArray, List.nil_append, List.cons_append]
  go_wp2_with fail
  refine (HM.out W HI.out).mono ?_
  rintro e w1 ⟨rfl, rfl⟩
  go_wp2_with fail
  refine HC.out.mono ?_
  rintro e w1 ⟨a1, c1, rfl, i1, o1, b1⟩
  have HL : Hid (Lp W p a n c b most J (.slice a1 n c1) xs0 w1) := Lib.hid ⟨HS.out, b1.size, BX.out.but (Below.but b1 (fun _ => False)) (fun _ _ _ => id), ⟨a1, c1, by rw [HI.out.len], by rw [HI.out.len]; exact i1, by rw [HI.out.len]; exact o1⟩, HJ.out _ _ _ HJ0.out (Below.but b1 _)⟩
  clear i1 o1 b1 HC HM k1 k2
  go_wp2
  go_loopw [6] (fun v wr => ∃ xs, Hid (Lp W p a n c b most J v xs wr)) (fun v wr => meas v wr)
  case atStart => exact ⟨xs0, HL⟩
  case round =>
    obtain ⟨xs, HR⟩ := hrel
    clear HL BX HI HJ0 HS
    obtain ⟨a2, c2, rfl, i2, o2⟩ := HR.out.left
    have h12 := HR.out.sm.len
    by_cases h2 : 2 ≤ xs.length
    · obtain ⟨x, mid, y, rfl⟩ := two_ends h2
      obtain ⟨hxx, hmm, hyy⟩ := may_parts HR.out.sm.may
      have hb20 := HR.out.sm.blk
      obtain ⟨g, o, rfl, hg, hf⟩ := o2.2 (by omega)
      have k2 := HR.out.box.blk
      have k3 := HR.out.box.mst
      have k4 := HR.out.box.gos
      obtain ⟨L, hL⟩ : ∃ L, (x :: (mid ++ [y])).length = L + 1 := ⟨_, rfl⟩
      rw [hL] at h2 h12 i2 o2 HR ⊢
      obtain ⟨cx, cy⟩ := two_cells i2
      have MO : Hid (meas (.slice (some ⟨g, o, none⟩) (L + 1) c2) wr = 20 * (L + 1) + y.toNat) := Lib.hid (meas_at i2 (by
        obtain rfl : L = mid.length + 1 := by simp at hL; omega
        rw [List.getElem?_cons_succ, List.getElem?_append_right (Nat.le_refl _)]
        simp))
      have hml : mid.length + 1 = L := by simp at hL; omega
      have fx := hf o
      have fy := hf (o + L)
      have hL1 : 1 ≤ L := by omega
      have hL0 : ¬ L = 0 := by omega
      have hLt : (L : Int) < (L : Int) + 1 := by omega
      have d1 : decide ((1 : Int) < (L : Int) + 1) = true := decide_eq_true (by omega)
      have hw : IntKind.i64.wrap (b - x) = b - x := IntWalk.i64_in _ (by omega)
      obtain ⟨m, hmn⟩ : ∃ m, min most (min (b - x) y) = m := ⟨_, rfl⟩
      have m1 : 1 ≤ m ∧ m ≤ b - x ∧ m ≤ y := by omega
      obtain ⟨u, hu⟩ : ∃ u, x + m = u := ⟨_, rfl⟩
      obtain ⟨z, hz⟩ : ∃ z, y - m = z := ⟨_, rfl⟩
      have hw1 : IntKind.i64.wrap (x + m) = u := (IntWalk.i64_in _ (by omega)).trans hu
      have hw2 : IntKind.i64.wrap (y - m) = z := (IntWalk.i64_in _ (by omega)).trans hz
      have u1 : 2 ≤ u ∧ u ≤ b := by omega
      have z1 : 0 ≤ z ∧ z < b ∧ z < y := by omega
      have HU := Lib.hid hu
      have HZ := Lib.hid hz
      have HMN := Lib.hid hmn
      clear hu hz hmn
      clear hf
      go_upto_region 4 with fail
      go_still_tail 10, (by kernel_rfl)
      change wpList _ _ _ _ _ wr.drew
      replace i2 : Ints wr.drew wr.drew.heap.size (some ⟨g, o, none⟩) (L + 1) (x :: (mid ++ [y])) := i2
      replace o2 : Own1 wr.drew W.heap.size (some ⟨g, o, none⟩) (L + 1) c2 := o2
      replace k2 : wr.drew.cell? ⟨p + 1, 0, none⟩ = some (.int .i64 b) := k2
      replace k4 : wr.drew.cell? ⟨p + 3, 0, none⟩ = some (.func (.func 22) #[] #[.pointer (some ⟨p + 1, 0, none⟩)]) := k4
      replace cx : wr.drew.cell? ⟨g, o, none⟩ = some (.int .i64 x) := cx
      replace cy : wr.drew.cell? ⟨g, o + L, none⟩ = some (.int .i64 y) := cy
      replace fx : wr.drew.frozen? ⟨g, o, none⟩ = false := fx
      replace fy : wr.drew.frozen? ⟨g, o + L, none⟩ = false := fy
      have BD := Lib.hid (show But (W.heap.size ≤ ·) wr wr.drew from (But.refl _ _).drew)
      generalize wr.drew = wd at *
      refine wpList_min3 rfl (.tmp 21) (.tmp 26) (.tmp 30) rfl rfl rfl rfl HMN.out ?_
      go_upto_region 7 with fail
      have b3 : But (W.heap.size ≤ ·) wd ((wd.setCell ⟨g, o, none⟩ (.int .i64 u)).setCell ⟨g, o + L, none⟩ (.int .i64 z)) := ((But.refl _ _).setCell (p := ⟨g, o, none⟩) (fun _ => hg) _).setCell (p := ⟨g, o + L, none⟩) (fun _ => hg) _
      have i3 := two_set (x' := u) (y' := z) i2 (by omega) (by omega)
      have o3 : Own1 ((wd.setCell ⟨g, o, none⟩ (.int .i64 u)).setCell ⟨g, o + L, none⟩ (.int .i64 z)) W.heap.size (some ⟨g, o, none⟩) (L + 1) c2 := ⟨o2.1, fun q => by
        obtain ⟨g', o', e, h1, h2⟩ := o2.2 q
        exact ⟨g', o', e, h1, fun k => by rw [World.frozen?_setCell, World.frozen?_setCell]; exact h2 k⟩⟩
      have bx3 := (HR.out.box.but BD.out (fun k _ h => by omega)).but b3 (fun k _ h => by omega)
      have J3 := Lib.hid (HJ.out _ _ _ (HJ.out _ _ _ HR.out.says BD.out) b3)
      have sz3 : W.heap.size ≤ ((wd.setCell ⟨g, o, none⟩ (.int .i64 u)).setCell ⟨g, o + L, none⟩ (.int .i64 z)).heap.size := Nat.le_trans (Nat.le_trans HR.out.size BD.out.size) b3.size
      have SM := Lib.hid HR.out.sm
      clear i2 o2 k2 k3 k4 cx cy fx fy BD HR b3
      generalize (wd.setCell ⟨g, o, none⟩ (.int .i64 u)).setCell ⟨g, o + L, none⟩ (.int .i64 z) = w2 at *
      obtain ⟨cx, cy⟩ := two_cells i3
      have k2 := bx3.blk
      have k4 := bx3.gos
      have HG := Lib.hid fun (z : Int) (v : World) (hv : v.cell? ⟨p + 1, 0, none⟩ = some (.int .i64 b)) => goes_any b z (p + 1) v hv
      have BX3 := Lib.hid bx3
      have I3 := Lib.hid i3
      have O3 := Lib.hid o3
      clear bx3 i3 o3
      have gy : ∀ v, v.cell? ⟨p + 1, 0, none⟩ = some (.int .i64 b) → Calls Try.prog 22 #[.int .i64 z, .pointer (some ⟨p + 1, 0, none⟩)] v (B1 (decide (z = 0)) v) := fun v hv => by
        have := goes_any b z (p + 1) v hv
        rwa [show goesB b z = decide (z = 0) by unfold goesB; rw [show (z == b) = false by simp; omega, Bool.or_false]; rfl] at this
      have gx : ∀ v, v.cell? ⟨p + 1, 0, none⟩ = some (.int .i64 b) → Calls Try.prog 22 #[.int .i64 u, .pointer (some ⟨p + 1, 0, none⟩)] v (B1 (decide (u = b)) v) := fun v hv => by
        have := goes_any b u (p + 1) v hv
        rwa [show goesB b u = decide (u = b) by unfold goesB; rw [show (u == 0) = false by simp; omega, Bool.false_or]; rfl] at this
      have hcap := O3.out.1
      have ct := Lib.hid (fun v => cut_to (b := g) (o := o) (n := L + 1) (c := c2) (k := L) (by omega) hcap v)
      by_cases ey : z = 0
      · rw [decide_eq_true ey] at gy
        have EY := Lib.hid ey
        have GY := Lib.hid gy
        have GX := Lib.hid gx
        clear ey gy gx HG
        go_quiet ((go_at_call 22; exact quiet1 (GY.out _ k2)))
        have ct1 := ct.out
        go_upto_region 9 with fail
        have I4 : Hid (Ints (w2.drewN nq) (w2.drewN nq).heap.size (some ⟨g, o, none⟩) L (u :: mid)) := Lib.hid (by
          have := I3.out.take (k := L) (by omega)
          rw [← hml, show (u :: (mid ++ [z])).take (mid.length + 1) = u :: mid by simp] at this
          rw [← hml]
          exact this)
        have O4 : Hid (Own1 (w2.drewN nq) W.heap.size (some ⟨g, o, none⟩) L c2) := Lib.hid ⟨by have := O3.out.1; omega, fun _ => O3.out.2 (by omega)⟩
        clear ct1
        have BX4 : Hid (Bx (w2.drewN nq) p a n c b most) := Lib.hid (BX3.out.but ((But.refl (fun _ => False) w2).drewN nq) (fun _ _ _ => id))
        have J4 : Hid (J (x :: (mid ++ [y])) (w2.drewN nq)) := Lib.hid (HJ.out _ _ _ J3.out ((But.refl _ _).drewN nq))
        have sz4 : W.heap.size ≤ (w2.drewN nq).heap.size := sz3
        clear I3 O3 BX3 J3 sz3 k2 k4 cx cy ct GY
        generalize w2.drewN nq = w3 at *
        have k2 := BX4.out.blk
        have k4 := BX4.out.gos
        have cx : w3.cell? ⟨g, o, none⟩ = some (.int .i64 u) := by
          obtain ⟨g', o', e, _, hc⟩ := I4.out.head (by omega)
          injection e with e
          injection e with e1 e2
          subst e1 e2
          exact hc 0 u rfl
        have hLp : (0 : Int) < (L : Int) := by omega
        have GX2 := Lib.hid fun v hv => GX.out v hv
        by_cases ex : u = b
        · have GX3 : Hid (∀ v, v.cell? ⟨p + 1, 0, none⟩ = some (.int .i64 b) → Calls Try.prog 22 #[.int .i64 u, .pointer (some ⟨p + 1, 0, none⟩)] v (B1 true v)) := Lib.hid fun v hv => by
            have := GX2.out v hv
            rwa [decide_eq_true ex] at this
          have EX := Lib.hid ex
          clear ex GX GX2
          obtain ⟨o5, c5, hc5, run5, i5⟩ := cut_tail I4.out (k := 1) (by omega) O4.out.1
          have CT := Lib.hid (show ∀ v, (Instr.sliceAt 22 (.slice (some ⟨g, o, none⟩) (L) c2) (some (.int .i64 1)) none none).run Try.prog v = .ok (.slice (some ⟨g, o5, none⟩) (L - 1) c5) v from run5)
          have I5 : Hid (Ints w3 w3.heap.size (some ⟨g, o5, none⟩) (L - 1) ((u :: mid).drop 1)) := Lib.hid i5
          have O5 : Hid (Own1 w3 W.heap.size (some ⟨g, o5, none⟩) (L - 1) c5) := Lib.hid ⟨hc5, fun _ => by
            obtain ⟨g', o', e, h1, h2⟩ := O4.out.2 (by omega)
            injection e with e
            injection e with e1 e2
            subst e1 e2
            exact ⟨g, o5, rfl, h1, h2⟩⟩
          clear run5 i5 hc5
          go_quiet ((go_at_call 22; exact quiet1 (GX3.out _ k2)))
          have ct5 := CT.out
          go_upto_region 11 with fail
          rename_i K hK
          have I6 : Hid (Ints (w3.drewN nq) (w3.drewN nq).heap.size (some ⟨g, o5, none⟩) (L - 1) ((u :: mid).drop 1)) := Lib.hid I5.out
          have O6 : Hid (Own1 (w3.drewN nq) W.heap.size (some ⟨g, o5, none⟩) (L - 1) c5) := Lib.hid O5.out
          have BX6 : Hid (Bx (w3.drewN nq) p a n c b most) := Lib.hid (BX4.out.but ((But.refl (fun _ => False) w3).drewN nq) (fun _ _ _ => id))
          have J6 : Hid (J (x :: (mid ++ [y])) (w3.drewN nq)) := Lib.hid (HJ.out _ _ _ J4.out ((But.refl _ _).drewN nq))
          have sz6 : W.heap.size ≤ (w3.drewN nq).heap.size := sz4
          clear I4 O4 I5 O5 BX4 J4 sz4 k2 k4 cx GX3 CT ct5
          generalize w3.drewN nq = w5 at *
          have YE : ((u :: mid).drop 1) = ends b u mid z := by simp [ends, EX.out, EY.out]
          have YN : ((u :: mid).drop 1).length = L - 1 := by simp; omega
          have YY := Yl.made SM.out hm.1 HMN.out YN HU.out HZ.out YE I6.out O6.out
          have SY := Lib.hid YY.2.2.1
          obtain ⟨fn, tmps, assign, body, hy, hR⟩ := HY.out _ _ _ w5 J6.out sz6 YY
          have HR := Lib.hid hR
          clear YY hR
          refine (wpIn_wide (n := 2)).1 ?_
          gi_wp2
          refine HR.out.mono ?_
          rintro e w6 (⟨rfl, hJ6, hb6⟩ | ⟨rfl, hx6⟩)
          · have hO := O6.out.but I6.out hb6 (fun k hk q => by omega)
            have ML : Hid (meas (.slice (some ⟨g, o5, none⟩) (L - 1) c5) w6 < meas (.slice (some ⟨g, o, none⟩) (L + 1) c2) wr) := Lib.hid (by
              rw [MO.out]
              have := meas_lt (c := c5) hO.2 SY.out
              omega)
            have NX : Hid (Lp W p a n c b most J (.slice (some ⟨g, o5, none⟩) (L - 1) c5) ((u :: mid).drop 1) w6) := Lib.hid ⟨SY.out, Nat.le_trans sz6 hb6.size, BX6.out.but hb6 (fun k h1 h2 q => by omega), ⟨_, _, by rw [YN], by rw [YN]; exact hO.2, by rw [YN]; exact hO.1⟩, hJ6⟩
            clear hO hJ6 hb6 YE YN
            gi_wp2
            go_wp2
            go_roundw
            case rel => exact ⟨_, NX⟩
            case measure => exact ML.out
          · clear YE YN
            gi_wp2
            go_wp2
            refine bodyPost_ret (results_none rfl _ _ _) rfl ?_
            exact ⟨⟨_, rfl⟩, .inr hx6⟩
        · have GX3 : Hid (∀ v, v.cell? ⟨p + 1, 0, none⟩ = some (.int .i64 b) → Calls Try.prog 22 #[.int .i64 u, .pointer (some ⟨p + 1, 0, none⟩)] v (B1 false v)) := Lib.hid fun v hv => by
            have := GX2.out v hv
            rwa [decide_eq_false ex] at this
          have EX := Lib.hid ex
          clear ex GX GX2
          have I5 := I4
          have O5 := O4
          go_quiet ((go_at_call 22; exact quiet1 (GX3.out _ k2)))
          go_upto_region 11 with fail
          rename_i K hK
          have I6 : Hid (Ints (w3.drewN nq) (w3.drewN nq).heap.size (some ⟨g, o, none⟩) (L) (u :: mid)) := Lib.hid I5.out
          have O6 : Hid (Own1 (w3.drewN nq) W.heap.size (some ⟨g, o, none⟩) (L) c2) := Lib.hid O5.out
          have BX6 : Hid (Bx (w3.drewN nq) p a n c b most) := Lib.hid (BX4.out.but ((But.refl (fun _ => False) w3).drewN nq) (fun _ _ _ => id))
          have J6 : Hid (J (x :: (mid ++ [y])) (w3.drewN nq)) := Lib.hid (HJ.out _ _ _ J4.out ((But.refl _ _).drewN nq))
          have sz6 : W.heap.size ≤ (w3.drewN nq).heap.size := sz4
          clear I4 O4 I5 O5 BX4 J4 sz4 k2 k4 cx GX3
          generalize w3.drewN nq = w5 at *
          have YE : (u :: mid) = ends b u mid z := by simp [ends, EX.out, EY.out]
          have YN : (u :: mid).length = L := by simp; omega
          have YY := Yl.made SM.out hm.1 HMN.out YN HU.out HZ.out YE I6.out O6.out
          have SY := Lib.hid YY.2.2.1
          obtain ⟨fn, tmps, assign, body, hy, hR⟩ := HY.out _ _ _ w5 J6.out sz6 YY
          have HR := Lib.hid hR
          clear YY hR
          refine (wpIn_wide (n := 2)).1 ?_
          gi_wp2
          refine HR.out.mono ?_
          rintro e w6 (⟨rfl, hJ6, hb6⟩ | ⟨rfl, hx6⟩)
          · have hO := O6.out.but I6.out hb6 (fun k hk q => by omega)
            have ML : Hid (meas (.slice (some ⟨g, o, none⟩) (L) c2) w6 < meas (.slice (some ⟨g, o, none⟩) (L + 1) c2) wr) := Lib.hid (by
              rw [MO.out]
              have := meas_lt (c := c2) hO.2 SY.out
              omega)
            have NX : Hid (Lp W p a n c b most J (.slice (some ⟨g, o, none⟩) (L) c2) (u :: mid) w6) := Lib.hid ⟨SY.out, Nat.le_trans sz6 hb6.size, BX6.out.but hb6 (fun k h1 h2 q => by omega), ⟨_, _, by rw [YN], by rw [YN]; exact hO.2, by rw [YN]; exact hO.1⟩, hJ6⟩
            clear hO hJ6 hb6 YE YN
            gi_wp2
            go_wp2
            go_roundw
            case rel => exact ⟨_, NX⟩
            case measure => exact ML.out
          · clear YE YN
            gi_wp2
            go_wp2
            refine bodyPost_ret (results_none rfl _ _ _) rfl ?_
            exact ⟨⟨_, rfl⟩, .inr hx6⟩
      · rw [decide_eq_false ey] at gy
        have EY := Lib.hid ey
        have GY := Lib.hid gy
        have GX := Lib.hid gx
        clear ey gy gx HG
        go_quiet ((go_at_call 22; exact quiet1 (GY.out _ k2)))
        go_upto_region 9 with fail
        have I4 : Hid (Ints (w2.drewN nq) (w2.drewN nq).heap.size (some ⟨g, o, none⟩) (L + 1) (u :: (mid ++ [z]))) := Lib.hid I3.out
        have O4 : Hid (Own1 (w2.drewN nq) W.heap.size (some ⟨g, o, none⟩) (L + 1) c2) := Lib.hid O3.out
        have BX4 : Hid (Bx (w2.drewN nq) p a n c b most) := Lib.hid (BX3.out.but ((But.refl (fun _ => False) w2).drewN nq) (fun _ _ _ => id))
        have J4 : Hid (J (x :: (mid ++ [y])) (w2.drewN nq)) := Lib.hid (HJ.out _ _ _ J3.out ((But.refl _ _).drewN nq))
        have sz4 : W.heap.size ≤ (w2.drewN nq).heap.size := sz3
        clear I3 O3 BX3 J3 sz3 k2 k4 cx cy ct GY
        generalize w2.drewN nq = w3 at *
        have k2 := BX4.out.blk
        have k4 := BX4.out.gos
        have cx : w3.cell? ⟨g, o, none⟩ = some (.int .i64 u) := by
          obtain ⟨g', o', e, _, hc⟩ := I4.out.head (by omega)
          injection e with e
          injection e with e1 e2
          subst e1 e2
          exact hc 0 u rfl
        have hLp : (0 : Int) < (L : Int) := by omega
        have GX2 := Lib.hid fun v hv => GX.out v hv
        by_cases ex : u = b
        · have GX3 : Hid (∀ v, v.cell? ⟨p + 1, 0, none⟩ = some (.int .i64 b) → Calls Try.prog 22 #[.int .i64 u, .pointer (some ⟨p + 1, 0, none⟩)] v (B1 true v)) := Lib.hid fun v hv => by
            have := GX2.out v hv
            rwa [decide_eq_true ex] at this
          have EX := Lib.hid ex
          clear ex GX GX2
          obtain ⟨o5, c5, hc5, run5, i5⟩ := cut_tail I4.out (k := 1) (by omega) O4.out.1
          have CT := Lib.hid (show ∀ v, (Instr.sliceAt 22 (.slice (some ⟨g, o, none⟩) (L + 1) c2) (some (.int .i64 1)) none none).run Try.prog v = .ok (.slice (some ⟨g, o5, none⟩) (L) c5) v from run5)
          have I5 : Hid (Ints w3 w3.heap.size (some ⟨g, o5, none⟩) (L) ((u :: (mid ++ [z])).drop 1)) := Lib.hid i5
          have O5 : Hid (Own1 w3 W.heap.size (some ⟨g, o5, none⟩) (L) c5) := Lib.hid ⟨hc5, fun _ => by
            obtain ⟨g', o', e, h1, h2⟩ := O4.out.2 (by omega)
            injection e with e
            injection e with e1 e2
            subst e1 e2
            exact ⟨g, o5, rfl, h1, h2⟩⟩
          clear run5 i5 hc5
          go_quiet ((go_at_call 22; exact quiet1 (GX3.out _ k2)))
          have ct5 := CT.out
          go_upto_region 11 with fail
          rename_i K hK
          have I6 : Hid (Ints (w3.drewN nq) (w3.drewN nq).heap.size (some ⟨g, o5, none⟩) (L) ((u :: (mid ++ [z])).drop 1)) := Lib.hid I5.out
          have O6 : Hid (Own1 (w3.drewN nq) W.heap.size (some ⟨g, o5, none⟩) (L) c5) := Lib.hid O5.out
          have BX6 : Hid (Bx (w3.drewN nq) p a n c b most) := Lib.hid (BX4.out.but ((But.refl (fun _ => False) w3).drewN nq) (fun _ _ _ => id))
          have J6 : Hid (J (x :: (mid ++ [y])) (w3.drewN nq)) := Lib.hid (HJ.out _ _ _ J4.out ((But.refl _ _).drewN nq))
          have sz6 : W.heap.size ≤ (w3.drewN nq).heap.size := sz4
          clear I4 O4 I5 O5 BX4 J4 sz4 k2 k4 cx GX3 CT ct5
          generalize w3.drewN nq = w5 at *
          have YE : ((u :: (mid ++ [z])).drop 1) = ends b u mid z := by simp [ends, EX.out, EY.out]
          have YN : ((u :: (mid ++ [z])).drop 1).length = L := by simp; omega
          have YY := Yl.made SM.out hm.1 HMN.out YN HU.out HZ.out YE I6.out O6.out
          have SY := Lib.hid YY.2.2.1
          obtain ⟨fn, tmps, assign, body, hy, hR⟩ := HY.out _ _ _ w5 J6.out sz6 YY
          have HR := Lib.hid hR
          clear YY hR
          refine (wpIn_wide (n := 2)).1 ?_
          gi_wp2
          refine HR.out.mono ?_
          rintro e w6 (⟨rfl, hJ6, hb6⟩ | ⟨rfl, hx6⟩)
          · have hO := O6.out.but I6.out hb6 (fun k hk q => by omega)
            have ML : Hid (meas (.slice (some ⟨g, o5, none⟩) (L) c5) w6 < meas (.slice (some ⟨g, o, none⟩) (L + 1) c2) wr) := Lib.hid (by
              rw [MO.out]
              have := meas_lt (c := c5) hO.2 SY.out
              omega)
            have NX : Hid (Lp W p a n c b most J (.slice (some ⟨g, o5, none⟩) (L) c5) ((u :: (mid ++ [z])).drop 1) w6) := Lib.hid ⟨SY.out, Nat.le_trans sz6 hb6.size, BX6.out.but hb6 (fun k h1 h2 q => by omega), ⟨_, _, by rw [YN], by rw [YN]; exact hO.2, by rw [YN]; exact hO.1⟩, hJ6⟩
            clear hO hJ6 hb6 YE YN
            gi_wp2
            go_wp2
            go_roundw
            case rel => exact ⟨_, NX⟩
            case measure => exact ML.out
          · clear YE YN
            gi_wp2
            go_wp2
            refine bodyPost_ret (results_none rfl _ _ _) rfl ?_
            exact ⟨⟨_, rfl⟩, .inr hx6⟩
        · have GX3 : Hid (∀ v, v.cell? ⟨p + 1, 0, none⟩ = some (.int .i64 b) → Calls Try.prog 22 #[.int .i64 u, .pointer (some ⟨p + 1, 0, none⟩)] v (B1 false v)) := Lib.hid fun v hv => by
            have := GX2.out v hv
            rwa [decide_eq_false ex] at this
          have EX := Lib.hid ex
          clear ex GX GX2
          have I5 := I4
          have O5 := O4
          go_quiet ((go_at_call 22; exact quiet1 (GX3.out _ k2)))
          go_upto_region 11 with fail
          rename_i K hK
          have I6 : Hid (Ints (w3.drewN nq) (w3.drewN nq).heap.size (some ⟨g, o, none⟩) (L + 1) (u :: (mid ++ [z]))) := Lib.hid I5.out
          have O6 : Hid (Own1 (w3.drewN nq) W.heap.size (some ⟨g, o, none⟩) (L + 1) c2) := Lib.hid O5.out
          have BX6 : Hid (Bx (w3.drewN nq) p a n c b most) := Lib.hid (BX4.out.but ((But.refl (fun _ => False) w3).drewN nq) (fun _ _ _ => id))
          have J6 : Hid (J (x :: (mid ++ [y])) (w3.drewN nq)) := Lib.hid (HJ.out _ _ _ J4.out ((But.refl _ _).drewN nq))
          have sz6 : W.heap.size ≤ (w3.drewN nq).heap.size := sz4
          clear I4 O4 I5 O5 BX4 J4 sz4 k2 k4 cx GX3
          generalize w3.drewN nq = w5 at *
          have YE : (u :: (mid ++ [z])) = ends b u mid z := by simp [ends, EX.out, EY.out]
          have YN : (u :: (mid ++ [z])).length = L + 1 := by simp; omega
          have YY := Yl.made SM.out hm.1 HMN.out YN HU.out HZ.out YE I6.out O6.out
          have SY := Lib.hid YY.2.2.1
          obtain ⟨fn, tmps, assign, body, hy, hR⟩ := HY.out _ _ _ w5 J6.out sz6 YY
          have HR := Lib.hid hR
          clear YY hR
          refine (wpIn_wide (n := 2)).1 ?_
          gi_wp2
          refine HR.out.mono ?_
          rintro e w6 (⟨rfl, hJ6, hb6⟩ | ⟨rfl, hx6⟩)
          · have hO := O6.out.but I6.out hb6 (fun k hk q => by omega)
            have ML : Hid (meas (.slice (some ⟨g, o, none⟩) (L + 1) c2) w6 < meas (.slice (some ⟨g, o, none⟩) (L + 1) c2) wr) := Lib.hid (by
              rw [MO.out, meas_at (z := z) hO.2 (by rw [← hml, List.getElem?_cons_succ, List.getElem?_append_right (Nat.le_refl _)]; simp)]
              omega)
            have NX : Hid (Lp W p a n c b most J (.slice (some ⟨g, o, none⟩) (L + 1) c2) (u :: (mid ++ [z])) w6) := Lib.hid ⟨SY.out, Nat.le_trans sz6 hb6.size, BX6.out.but hb6 (fun k h1 h2 q => by omega), ⟨_, _, by rw [YN], by rw [YN]; exact hO.2, by rw [YN]; exact hO.1⟩, hJ6⟩
            clear hO hJ6 hb6 YE YN
            gi_wp2
            go_wp2
            go_roundw
            case rel => exact ⟨_, NX⟩
            case measure => exact ML.out
          · clear YE YN
            gi_wp2
            go_wp2
            refine bodyPost_ret (results_none rfl _ _ _) rfl ?_
            exact ⟨⟨_, rfl⟩, .inr hx6⟩
    · have d1 : decide ((1 : Int) < (xs.length : Int)) = false := decide_eq_false (by omega)
      clear i2 o2
      go_wp2
      go_end0
      exact ⟨⟨_, rfl⟩, .inl ⟨xs, by omega, HR.out.says⟩⟩
end Go.Proofs.Ytghlngdmcfconaa
