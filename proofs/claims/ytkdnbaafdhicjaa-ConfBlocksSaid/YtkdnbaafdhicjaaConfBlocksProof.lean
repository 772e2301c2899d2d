/-
  almerylaw03.ConfBlocks returns true for every layout and every byte, and all memory that was there is as it was. No condition.
-/
import Derived.Test.YtkdnbaafdhicjaaRows
import Derived.WalkKit
import Derived.ProofKit
import Derived.OpenShut
import Derived.Test.YtkdnbaafdhicjaaConfAwake
import Derived.Test.YtkdnbaafdhicjaaConfRefMay
import Derived.Test.YtkdnbaafdhicjaaConfOpen
import Derived.ShutString
import Derived.ChangeOld
import Derived.Below
namespace Go.Proofs.Ytkdnbaafdhicjaa.confBlocks
open Go.ChangeShapes Go.WideShapes Go.ChangeAt Go.RowKit
open Go.ChangeMaps (open_string shut_string)
set_option linter.unusedVariables false

theorem own : ownKnob Try.prog.godebug = none := by kernel_rfl
theorem laidOut : laidOutB Try.prog = true := by kernel_rfl

/-- What a layout that may be has. -/
structure May03 (c : Cf) : Prop where
  size : sizeB c.size = true
  classes : mayB c.xs c.size = true
  keep : keepB c.ks c.cn = true
  most : 1 ≤ c.most ∧ c.most ≤ large c.size
theorem may03 {c : Cf} (h : confB c = true) : May03 c := by
  simp only [confB, Bool.and_eq_true] at h
  exact ⟨h.1, h.2.2.1, h.2.2.2.1, inB_true.1 h.2.2.2.2.2.2.2⟩
theorem keep9 {w w' : World} {B g b o : Nat} {c : Cf} {ca : Option Addr} {s : Int} (hb : Below B w w') (hg : g < B) (hB : b < B) (h : w.cell? ⟨b, o, none⟩ = some (.int .i64 s) ∧ w.cell? ⟨g, 0, none⟩ = some (.int .i64 c.size) ∧ w.cell? ⟨g, 1, none⟩ = some (.int .i64 c.pages) ∧
      w.cell? ⟨g, 2, none⟩ = some (.slice ca c.cn c.cc) ∧ w.cell? ⟨g, 3, none⟩ = some (.slice c.ka c.kn c.kc) ∧
      w.cell? ⟨g, 4, none⟩ = some (.int .i64 c.step) ∧ w.cell? ⟨g, 5, none⟩ = some (.int .i64 c.slots) ∧
      w.cell? ⟨g, 6, none⟩ = some (.int .i64 c.gens) ∧ w.cell? ⟨g, 7, none⟩ = some (.int .i64 c.most)) :
    w'.cell? ⟨b, o, none⟩ = some (.int .i64 s) ∧ w'.cell? ⟨g, 0, none⟩ = some (.int .i64 c.size) ∧ w'.cell? ⟨g, 1, none⟩ = some (.int .i64 c.pages) ∧
      w'.cell? ⟨g, 2, none⟩ = some (.slice ca c.cn c.cc) ∧ w'.cell? ⟨g, 3, none⟩ = some (.slice c.ka c.kn c.kc) ∧
      w'.cell? ⟨g, 4, none⟩ = some (.int .i64 c.step) ∧ w'.cell? ⟨g, 5, none⟩ = some (.int .i64 c.slots) ∧
      w'.cell? ⟨g, 6, none⟩ = some (.int .i64 c.gens) ∧ w'.cell? ⟨g, 7, none⟩ = some (.int .i64 c.most) :=
  ⟨(hb.cell (p := ⟨b, o, none⟩) hB).trans h.1, (hb.cell (p := ⟨g, 0, none⟩) hg).trans h.2.1, (hb.cell (p := ⟨g, 1, none⟩) hg).trans h.2.2.1, (hb.cell (p := ⟨g, 2, none⟩) hg).trans h.2.2.2.1, (hb.cell (p := ⟨g, 3, none⟩) hg).trans h.2.2.2.2.1, (hb.cell (p := ⟨g, 4, none⟩) hg).trans h.2.2.2.2.2.1, (hb.cell (p := ⟨g, 5, none⟩) hg).trans h.2.2.2.2.2.2.1, (hb.cell (p := ⟨g, 6, none⟩) hg).trans h.2.2.2.2.2.2.2.1, (hb.cell (p := ⟨g, 7, none⟩) hg).trans h.2.2.2.2.2.2.2.2⟩

/-- The blocks of a class that there is, in a heap that may be. -/
theorem blocks_facts {c : Cf} {k : Nat} {s : Int} (hs : sizeB c.size = true) (h : mayB c.xs c.size = true) (hk : c.xs[k]? = some s) :
    1 ≤ blocks c k ∧ blocks c k ≤ c.size / 8 ∧ blocks c k * s ≤ c.size ∧ c.size < (blocks c k + 1) * s ∧ (blocks c k + 1) * s ≤ 8192 ∧ blocks c ((k : Int) + 1) ≤ blocks c k := by
  obtain ⟨z1, z2, z3⟩ := sizeB_true.1 hs
  simp only [mayB, Bool.and_eq_true, decide_eq_true_eq] at h
  obtain ⟨_, h2⟩ := h
  obtain ⟨a1, _, a3, _⟩ := okFrom_all c.xs 0 h2 _ _ hk
  have e : blocks c k = c.size / s := by unfold blocks; rw [sizeAt_at hk, whole_on (by omega) (by omega)]
  obtain ⟨g1, g2, g3, g4, g5⟩ := div_facts (n := c.size) (b := s) (by omega) (by omega)
  rw [e]
  have q1 : 1 ≤ c.size / s := (Int.le_ediv_iff_mul_le (by omega)).2 (by omega)
  have q2 : c.size / s * 8 ≤ c.size / s * s := Int.mul_le_mul_of_nonneg_left a1 g1
  have q3 : (c.size / s + 1) * s = c.size / s * s + s := by rw [Int.add_mul, Int.one_mul]
  refine ⟨q1, by omega, by omega, by omega, by omega, ?_⟩
  unfold blocks
  cases ht : c.xs[k + 1]? with
  | none =>
    rw [sizeAt_far (by have := List.getElem?_eq_none_iff.1 ht; omega), whole_off (.inr (by omega))]; omega
  | some t =>
    have hst := okFrom_rise c.xs 0 h2 k (k + 1) s t (by omega) hk ht
    rw [show ((k : Int) + 1) = ((k + 1 : Nat) : Int) by omega, sizeAt_at ht, whole_on (by omega) (by omega)]
    have r1 : c.size / t * t ≤ c.size := by have := div_facts (n := c.size) (b := t) (by omega) (by omega); omega
    have r0 : 0 ≤ c.size / t := by have := div_facts (n := c.size) (b := t) (by omega) (by omega); omega
    exact (Int.le_ediv_iff_mul_le (by omega)).2 (Int.le_trans (Int.mul_le_mul_of_nonneg_left (Int.le_of_lt hst) r0) r1)

/-! ### The walk -/
set_option maxRecDepth 100000 in
set_option maxHeartbeats 3200000 in
theorem walk (c : Cf) (n : Int) (w : World) (hc : c.Ok w w.heap.size) (hcc : c.cn ≤ c.cc) (hkc : c.kn ≤ c.kc) (hn : (Lit.int .u8 n).wf = true) :
    Calls Try.prog 5 #[.agg #[.int .i64 c.size, .int .i64 c.pages, .slice c.ca c.cn c.cc, .slice c.ka c.kn c.kc, .int .i64 c.step, .int .i64 c.slots, .int .i64 c.gens, .int .i64 c.most], .int .u8 n] w fun e w' => e = .returned (.bool true) ∧ Below w.heap.size w w' := by
  have B0 := Boxed.new w c
  have b0 := below1 w (.cells #[.int .i64 c.size, .int .i64 c.pages, .slice c.ca c.cn c.cc, .slice c.ka c.kn c.kc, .int .i64 c.step, .int .i64 c.slots, .int .i64 c.gens, .int .i64 c.most] 24)
  have O0 := hc.on b0
  have hn' : 0 ≤ n ∧ n ≤ 255 := by simpa [Lit.wf, IntKind.min, IntKind.max, IntKind.signed, IntKind.bits] using hn
  obtain ⟨n1, n2⟩ := hn'
  clear hn
  go_enter Try.func5, Try.ntmps5
  go_wp2_with fail
  refine (awake03_any _).mono ?_
  rintro e w1 ⟨rfl, f1⟩
  have B1 := B0.on f1
  have O1 := O0.on f1
  have b1 := belowT b0 f1
  clear f1 B0 O0 b0
  have ⟨x0, x1, x2, x3, x4, x5, x6, x7, x8⟩ := B1
  have HM := refConfMay_any c w1 O1
  cases hB : confB c with
  | false =>
    rw [confMay_off hB] at HM
    have H := Lib.hid HM
    clear HM hB
    go_wp2_with fail
    refine H.out.mono ?_
    rintro e w2 ⟨rfl, f2⟩
    go_wp2
    go_ret
    exact ⟨rfl, belowT b1 f2⟩
  | true =>
    rw [confMay_on hB] at HM
    have H := Lib.hid HM
    have M := may03 hB
    clear HM hB
    have hlen := O1.classes.len
    have hm1 : 1 ≤ c.cn ∧ c.cn ≤ 16 := by have := M.classes; simp [mayB] at this; omega
    obtain ⟨m1, m2⟩ := hm1
    obtain ⟨k, hk⟩ := Int.eq_ofNat_of_zero_le (Int.emod_nonneg n (show (c.cn : Int) ≠ 0 by omega))
    have hkl : k < c.cn := by have := Int.emod_lt_of_pos n (show 0 < (c.cn : Int) by omega); omega
    obtain ⟨s, hs, s1, s2⟩ := O1.classes.at_ hkl
    obtain ⟨z1, z2, z3⟩ := sizeB_true.1 M.size
    obtain ⟨q1, q2, q3, q4, q5, q6⟩ := blocks_facts M.size M.classes hs
    have sm : 8 ≤ s ∧ s ≤ c.size := by
      have h := M.classes
      simp only [mayB, Bool.and_eq_true, decide_eq_true_eq] at h
      obtain ⟨a1, _, a3, _⟩ := okFrom_all c.xs 0 h.2 _ _ hs
      exact ⟨a1, a3⟩
    have HS := Lib.hid hs
    clear hs
    go_wp2_with fail
    refine H.out.mono ?_
    rintro e w2 ⟨rfl, f2⟩
    have B2 := B1.on f2
    have O2 := O1.on f2
    have b2 := belowT b1 f2
    clear f2 B1 O1 b1 x0 x1 x2 x3 x4 x5 x6 x7 H hlen
    have ⟨x0, x1, x2, x3, x4, x5, x6, x7, x8'⟩ := B2
    have hk' : n.tmod (c.cn : Int) = (k : Int) := by rw [Int.tmod_eq_emod_of_nonneg n1]; exact hk
    go_wp2_with fail
    refine (blocks_any c (k : Int) _ O2 ⟨by omega, by omega⟩).mono ?_
    rintro e w3 ⟨rfl, f3⟩
    have B3 := B2.on f3
    have O3 := O2.on f3
    have b3 := belowT b2 f3
    clear f3 B2 O2 b2 x0 x1 x2 x3 x4 x5 x6 x7 hk hk'
    have ⟨x0, x1, x2, x3, x4, x5, x6, x7, x8''⟩ := B3
    go_wp2_with fail
    refine (blocks_any c ((k : Int) + 1) _ O3 ⟨by omega, by omega⟩).mono ?_
    rintro e w4 ⟨rfl, f4⟩
    have B4 := B3.on f4
    have O4 := O3.on f4
    have b4 := belowT b3 f4
    clear f4 B3 O3 b3 x0 x1 x2 x3 x4 x5 x6 x7
    have ⟨x0, x1, x2, x3, x4, x5, x6, x7, x9⟩ := B4
    have HB : Hid (∀ W : World, c.Ok W W.heap.size → Calls Try.prog 12 #[(.agg #[.int .i64 c.size, .int .i64 c.pages, .slice c.ca c.cn c.cc, .slice c.ka c.kn c.kc, .int .i64 c.step, .int .i64 c.slots, .int .i64 c.gens, .int .i64 c.most]), .int .i64 (-1 - (k : Int))] W (IB 0 W)) := Lib.hid (fun W hW => by
      have := blocks_any c (-1 - (k : Int)) W hW ⟨by omega, by omega⟩
      rw [show blocks c (-1 - (k : Int)) = 0 by unfold blocks; rw [sizeAt_neg (by omega), whole_off (.inr (by omega))]] at this
      exact this)
    have HI := O4.classes
    generalize hca : c.ca = ca at *
    have HCA := Lib.hid hca
    clear hca
    obtain ⟨b, o, rfl, hb, hcell0⟩ := HI.head (by omega)
    have hcell := hcell0 k s HS.out
    clear hcell0 HI
    generalize blocks c (k : Int) = u at *
    generalize blocks c ((k : Int) + 1) = v at *
    have g1 : decide (1 ≤ u) = true := by simpa using q1
    have g2 : decide (u ≤ c.size / 8) = true := by simpa using q2
    have g3 : decide (u * s ≤ c.size) = true := by simpa using q3
    have g4 : decide (c.size < (u + 1) * s) = true := by simpa using q4
    have g5 : decide (v ≤ u) = true := by simpa using q6
    have g6 : ((0 : Int) == 0) = true := rfl
    have p0 : 0 ≤ u * s := Int.mul_nonneg (by omega) (by omega)
    have y1 : IntKind.i64.wrap (u * s) = u * s := IntWalk.i64_in _ (by omega)
    have y2 : IntKind.i64.wrap (u + 1) = u + 1 := IntWalk.i64_in _ (by omega)
    have y3 : IntKind.i64.wrap ((u + 1) * s) = (u + 1) * s := IntWalk.i64_in _ (by omega)
    have y4 : IntKind.i64.wrap (-1 - (k : Int)) = -1 - (k : Int) := IntWalk.i64_in _ (by omega)
    have y5 : c.size.tdiv 8 = c.size / 8 := Int.tdiv_eq_ediv_of_nonneg (by omega)
    have y6 : IntKind.i64.wrap (c.size / 8) = c.size / 8 := IntWalk.i64_in _ (by omega)
    have y7 : (k : Int) < (c.cn : Int) := by omega
    have y8 : (0 : Int) ≤ (k : Int) := by omega
    have x9' : w.heap.size < w4.drew.heap.size := x9
    have hb' : b < w4.drew.heap.size := hb
    clear M HS q1 q2 q3 q4 q5 q6 p0
    go_wp2_with fail
    go_region_held3 (fun w' => w'.cell? ⟨b, o + k, none⟩ = some (.int .i64 s) ∧ w'.cell? ⟨w.heap.size, 0, none⟩ = some (.int .i64 c.size) ∧ w'.cell? ⟨w.heap.size, 1, none⟩ = some (.int .i64 c.pages) ∧
      w'.cell? ⟨w.heap.size, 2, none⟩ = some (.slice (some ⟨b, o, none⟩) c.cn c.cc) ∧ w'.cell? ⟨w.heap.size, 3, none⟩ = some (.slice c.ka c.kn c.kc) ∧
      w'.cell? ⟨w.heap.size, 4, none⟩ = some (.int .i64 c.step) ∧ w'.cell? ⟨w.heap.size, 5, none⟩ = some (.int .i64 c.slots) ∧
      w'.cell? ⟨w.heap.size, 6, none⟩ = some (.int .i64 c.gens) ∧ w'.cell? ⟨w.heap.size, 7, none⟩ = some (.int .i64 c.most))
      (first | exact ⟨hcell, x0, x1, x2, x3, x4, x5, x6, x7⟩ | exact keep9 f5 x9' hb' (by assumption) | go_keep)
      (first
        | (go_at_call 12; refine (HB.out _ (by exact O4.drew)).mono ?_; rintro e w5 ⟨rfl, f5⟩))
    go_wp2
    go_ret
    exact ⟨rfl, belowT (belowD b4) f5⟩

/-! ### The frame of the row -/
set_option maxRecDepth 100000 in
theorem lifted (os : Os) (started : os.Started) (H : Type) (enc : TypeId × Value → H) :
    ReturnsInHanded {} Try.checked os 5 .any (Rows.confBlocksSpec.pre6 enc Try.prog Try.f5 Rows.confBlocksRow.domain false) (Rows.confBlocksSpec.post enc Try.prog Try.f5 false true false false) := by
  refine returnsInHanded_of_change (C := Try.checked) own started (by kernel_rfl) Try.func5
    (ChangeSpec.witness6 (enc := enc) (C := Try.checked) false ⟨#[], #[.agg #[.int .i64 0, .int .i64 0, .slice none 0 0, .slice none 0 0, .int .i64 0, .int .i64 0, .int .i64 0, .int .i64 0], .int .u8 0], []⟩ 8 (by kernel_rfl) (by kernel_rfl) (by kernel_rfl) (by kernel_rfl)) ?_
  intro W base args ds gs before hval0 hW hcnd _
  have hval : ∀ (j : Nat) t v, Try.f5.params[j]? = some t → args[j]? = some v → Value.okWide Try.prog W .any base t v := hval0
  have hW' := hW
  obtain ⟨p, q, hA0, hV, rfl, hfz, hnd⟩ := hW
  have hA : DataW.TrodAll enc Try.prog W 0 (fun _ => true) true Try.f5.params.toList args.toList ds p := hA0
  rw [Try.params5] at hA hval
  obtain ⟨v0, vs0, d0, ds0, p0, q0, hargs, rfl, rfl, h0, r0⟩ := trodAll_cons hA
  obtain ⟨v1, vs1, d1, ds1, p1, q1, rfl, rfl, rfl, h1, r1⟩ := trodAll_cons r0
  obtain ⟨rfl, rfl, rfl⟩ := trodAll_nil r1
  obtain rfl : args = #[v0, v1] := by cases args; simp_all
  obtain ⟨rfl, rfl⟩ := trodVars_none hV
  have k0 := h0
  have lt0 : ∀ x ∈ p0, x.block < W.heap.size := by obtain ⟨m, hm⟩ := k0; exact DataW.trod_lt m _ _ _ hm
  obtain ⟨c, rfl, hc, hcc, hkc⟩ := open_conf (hval 0 24 v0 rfl rfl) h0
  obtain ⟨n, rfl, rfl, rfl, hn⟩ := open_int Try.underlying5 (hval 1 5 v1 rfl rfl) h1
  clear hA0 hval0
  refine (walk c n W hc hcc hkc hn).mono fun e W' ⟨he, bel⟩ => ?_
  subst he
  exact ⟨_, rfl, _, _, _, [], _, [], hW', trodAll_mk1 (shut_bool Try.underlying4 _), (trodAll_cons_mk (Below.trod laidOut (by kernel_rfl) (of_decide_eq_true (by kernel_rfl)) k0 bel lt0) (trodAll_cons_mk (shut_int Try.underlying5 hn) trodAll_mk0)), rfl, bel.frame _, fun h => by cases h⟩

theorem over : Rows.confBlocksRow.holds Try.pinned (OpenSpec.ofChange Rows.confBlocksSpec) :=
  OpenClaim.holds_of_wide 5 Try.f5 rfl rfl rfl rfl rfl rfl rfl ⟨rfl, rfl, rfl, rfl, rfl⟩ rfl rfl rfl rfl rfl (by kernel_rfl) Try.func5 (by kernel_rfl)
    (of_decide_eq_true (by kernel_rfl)) (by unfold Func.isWrapper; first | (rw [if_pos (by decide +kernel)]; kernel_rfl) | (rw [if_neg (by decide +kernel)]; exact ⟨rfl, rfl⟩))
    (fun os started H enc _ => lifted os started H enc)

theorem proved : Rows.ConfBlocksSaid := over
#print axioms proved
end Go.Proofs.Ytkdnbaafdhicjaa.confBlocks
