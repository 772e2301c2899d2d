/-
  MoveWrote: whatever two bytes, and whatever two numbers, come in, the law returns true, and the input reads behind the call as it did.
-/
import Derived.Test.YtadljlkflmodiaaRows
import Derived.WalkKit
import Derived.ProofKit
import Derived.OpenShut
import Derived.Test.YtadljlkflmodiaaMoveAwake
import Derived.Test.YtadljlkflmodiaaTwo8
import Derived.ShutString
import Derived.ChangeOld
import Derived.Below
namespace Go.Proofs.Ytadljlkflmodiaa.moveWrote
open Go.ChangeShapes Go.WideShapes Go.ChangeAt Go.RowKit
open Go.ChangeMaps (open_string shut_string)
set_option linter.unusedVariables false

theorem own : ownKnob Try.prog.godebug = none := by kernel_rfl
theorem laidOut : laidOutB Try.prog = true := by kernel_rfl

/-! ### The walk -/
set_option maxRecDepth 20000 in
theorem walk (n0 n1 : Int) (a : Int) (k : Int) (w : World) (hn0 : 0 ≤ n0 ∧ n0 ≤ 255) (hn1 : 0 ≤ n1 ∧ n1 ≤ 255) (ha : (Lit.int .i64 a).wf = true) (hk : (Lit.int .i64 k).wf = true) :
    Calls Try.prog 6 #[.agg #[.int .u8 n0, .int .u8 n1], .int .i64 a, .int .i64 k] w fun e w' => e = .returned (.bool true) ∧ Below w.heap.size w w' := by
  have ha2 := wf_i64 ha
  have hk2 := wf_i64 hk
  clear ha hk
  obtain ⟨r, hr⟩ : ∃ r : Nat, n0 % 64 = (r : Int) := ⟨(n0 % 64).toNat, by omega⟩
  have hr2 : n0.tmod 64 = (r : Int) := by rw [Int.tmod_eq_emod_of_nonneg (by omega)]; exact hr
  obtain ⟨j, hj⟩ : ∃ j : Nat, n1 % 65 = (j : Int) := ⟨(n1 % 65).toNat, by omega⟩
  have hj2 : n1.tmod 65 = (j : Int) := by rw [Int.tmod_eq_emod_of_nonneg (by omega)]; exact hj
  obtain ⟨K, hK⟩ : ∃ K : Nat, K = 1 + r := ⟨_, rfl⟩
  have hKw : IntKind.i64.wrap (1 + (r : Int)) = (K : Int) := by rw [IntWalk.i64_in _ (by omega)]; omega
  have HK : Hid (1 ≤ K ∧ K ≤ 64) := Lib.hid (by omega)
  clear hK
  go_enter Try.func6, Try.ntmps6
  go_wp2_with fail
  refine (awake15_any _).mono ?_
  rintro e w0 ⟨rfl, h0⟩
  have H0 := Lib.hid (belowT (below1 w _) h0)
  have N0 := h0.cell (p := ⟨w.heap.size, 1, none⟩) (by simp)
  have z1 : w0.cell? ⟨w.heap.size, 1, none⟩ = some (.int .u8 n1) := N0.trans (by go_simp)
  have N1 := h0.cell (p := ⟨w.heap.size, 0, none⟩) (by simp)
  have z0 : w0.cell? ⟨w.heap.size, 0, none⟩ = some (.int .u8 n0) := N1.trans (by go_simp)
  clear h0 N0 N1
  go_wp2_with fail
  refine (new_any w0).mono ?_
  rintro e w1 ⟨rfl, m1, b1, s1⟩
  have HG : Hid (w.heap.size ≤ w0.heap.size) := Lib.hid H0.out.size
  generalize hγ : w0.heap.size = γ at m1 s1 HG ⊢
  have HN : Hid (Calls Try.prog 11 #[.int .i64 2, .int .i64 64, .pointer (some ⟨γ, 0, none⟩)] w1 fun e w' => ∃ p b, e = .returned (.tuple #[.pointer (some ⟨p, 0, none⟩), .int .i64 0]) ∧ Ar w' p b (some γ) (List.replicate 128 0) 0 0 ∧ Below w1.heap.size w1 w' ∧ w1.heap.size ≤ p ∧ w1.heap.size ≤ b) :=
    Lib.hid (arenaNew_ok 2 64 (some γ) 0 0 w1 (by decide) (Mo.one m1) (fun q e => by cases e; exact s1))
  have B1 := Lib.hid (belowT H0.out b1)
  have y1 := (b1.cell (p := ⟨w.heap.size, 1, none⟩) (lt_of_cell z1)).trans z1
  clear m1 b1 s1 z0 z1 hγ
  go_wp2_with fail
  refine HN.out.mono ?_
  rintro e w2 ⟨p, b, rfl, a2, b2, hp, hb⟩
  have HB := Lib.hid (Nat.le_trans B1.out.size hb)
  have HM : Hid (Calls Try.prog 15 #[.pointer (some ⟨p, 0, none⟩), .int .i64 0, .int .i64 64, .int .i64 (K : Int)] w2 fun e w' => ∃ q, e = .returned (.tuple #[.pointer (some ⟨q, 0, none⟩), .int .i64 0]) ∧ Mw w' q p b (some γ) (List.replicate 128 0) 0 0 0 64 K 0 ∧ Below w2.heap.size w2 w' ∧ w2.heap.size ≤ q) := Lib.hid (moveNew_ok a2 0 64 K (by
    have := HK.out
    rw [List.length_replicate]
    exact ⟨by omega, ⟨by omega, by omega⟩, ⟨by omega, by omega⟩, Or.inl (by omega)⟩))
  have B2 := Lib.hid (belowT B1.out b2)
  have x1 := (b2.cell (p := ⟨w.heap.size, 1, none⟩) (lt_of_cell y1)).trans y1
  clear a2 b2 hp hb HN y1
  go_wp2_with fail
  refine HM.out.mono ?_
  rintro e w3 ⟨q, rfl, m3, b3, hq⟩
  have B3 := Lib.hid (belowT B2.out b3)
  have HQ := Lib.hid (Nat.le_trans B2.out.size hq)
  have z1 := (b3.cell (p := ⟨w.heap.size, 1, none⟩) (lt_of_cell x1)).trans x1
  have HS : Hid (∃ G : Nat, G ≤ K ∧ Calls Try.prog 22 #[.pointer (some ⟨q, 0, none⟩), .int .i64 (j : Int)] w3 fun e w' => e = .returned (.int .i64 (G : Int)) ∧ Mw w' q p b (some γ) (laid (List.replicate 128 0) 0 64 0 G) G 0 0 64 K G ∧ Below w.heap.size w w') := Lib.hid (by
    have h := step_any m3 (j : Int)
    have hl := goes_le m3.mv.gs (j : Int)
    generalize goes K 0 (j : Int) = G at h hl
    refine ⟨G, by omega, h.mono ?_⟩
    rintro e w' ⟨rfl, hm, hb⟩
    have hk := HK.out
    rw [more_small (by omega) (by omega) (by omega) (by omega), Int.zero_add, Nat.zero_add] at hm
    exact ⟨rfl, hm, B3.out.trans (Mw.mine hb B3.out.size HQ.out HB.out (fun g e => by cases e; exact HG.out))⟩)
  obtain ⟨G, hG, hS⟩ := HS.out
  have HGK := Lib.hid hG
  have HSS := Lib.hid hS
  clear HM m3 b3 hq x1 hG hS HS
  go_wp2_with fail
  refine HSS.out.mono ?_
  rintro e w4 ⟨rfl, m4, b4⟩
  have B4 := Lib.hid b4
  have M4 := Lib.hid m4
  have HL : Hid (Calls Try.prog 19 #[.pointer (some ⟨q, 0, none⟩)] w4 (RQ ((K : Int) - (G : Int)) w4)) := Lib.hid (left_any m4.mv (by have := HK.out; omega))
  clear m4 b4 z1 HSS
  go_wp2_with fail
  refine HL.out.mono ?_
  rintro e w5 ⟨rfl, d, rfl⟩
  have B5 := Lib.hid (belowN B4.out d)
  have M5 := Lib.hid (M4.out.drewN d)
  have hgw : IntKind.i64.wrap ((K : Int) - ((K : Int) - (G : Int))) = (G : Int) := by rw [IntWalk.i64_in _ (by have := HK.out; have := HGK.out; omega)]; omega
  clear HL M4
  generalize w4.drewN d = w5 at *
  go_wp2_with fail
  refine (lap_any γ (G : Int) 0 _ (M5.out.ar.mo γ rfl)).mono ?_
  rintro e w6 ⟨rfl, t6, b6⟩
  have M6 := Lib.hid (M5.out.lapped t6 b6)
  have B6 := Lib.hid (B5.out.trans (b6.one B5.out.size HG.out))
  clear t6 b6 M5
  by_cases hin : 0 ≤ a ∧ 0 ≤ k ∧ a + k ≤ (K : Int)
  · obtain ⟨a, rfl⟩ : ∃ n : Nat, a = (n : Int) := ⟨a.toNat, by omega⟩
    obtain ⟨k, rfl⟩ : ∃ n : Nat, k = (n : Int) := ⟨k.toNat, by omega⟩
    have hk := HK.out
    have hgk := HGK.out
    obtain ⟨R, hR⟩ : ∃ R, R = again G a k := ⟨_, rfl⟩
    have hR2 : max (min ((a : Int) + (k : Int)) (G : Int) - (a : Int)) 0 = (R : Int) := by rw [hR]; unfold again; omega
    have hRk : R ≤ k := by rw [hR]; unfold again; omega
    have HW : Hid (Calls Try.prog 24 #[.pointer (some ⟨q, 0, none⟩), .int .i64 (a : Int), .int .i64 (k : Int)] w6 fun e w' => e = .returned (.int .i64 0) ∧ Mt w' γ ((G : Int) + (R : Int)) G ∧ Below w.heap.size w w') := Lib.hid (by
      have h := wrote_ok M6.out a k (by omega)
      rw [← hR] at h
      refine h.mono ?_
      rintro e w' ⟨rfl, hm, hb⟩
      rw [more_small (by omega) (by omega) (by omega) (by omega)] at hm
      exact ⟨rfl, hm.ar.mo γ rfl, B6.out.trans (Ar.mine hb B6.out.size HB.out (fun g e => by cases e; exact HG.out))⟩)
    have HP : Hid (∀ w7, Mt w7 γ ((G : Int) + (R : Int)) G → Below w.heap.size w w7 → Calls Try.prog 23 #[.pointer (some ⟨γ, 0, none⟩)] w7 fun e w' => e = .returned (.int .i64 (R : Int)) ∧ Below w.heap.size w w') := Lib.hid (by
      intro w7 m7 b7
      refine (lap_any γ _ G _ m7).mono ?_
      rintro e w' ⟨rfl, _, hb⟩
      exact ⟨by congr 2; omega, b7.trans (hb.one b7.size HG.out)⟩)
    have d1 : decide ((0 : Int) ≤ (a : Int)) = true := by simp
    have d2 : decide ((0 : Int) ≤ (k : Int)) = true := by simp
    have d3 : decide ((k : Int) ≤ (K : Int)) = true := by simp; omega
    have d3n : decide (k ≤ K) = true := by simp; omega
    have d3p : k ≤ K := by omega
    have hw : IntKind.i64.wrap ((K : Int) - (k : Int)) = (K : Int) - (k : Int) := IntWalk.i64_in _ (by omega)
    have d4 : decide ((a : Int) ≤ (K : Int) - (k : Int)) = true := by rw [decide_eq_true_iff]; omega
    have hw2 : IntKind.i64.wrap ((a : Int) + (k : Int)) = (a : Int) + (k : Int) := IntWalk.i64_in _ (by omega)
    have hw3 : IntKind.i64.wrap (min ((a : Int) + (k : Int)) (G : Int) - (a : Int)) = min ((a : Int) + (k : Int)) (G : Int) - (a : Int) := IntWalk.i64_in _ (by omega)
    have d5 : ((R : Int) == max (min ((a : Int) + (k : Int)) (G : Int) - (a : Int)) 0) = true := by rw [hR2]; simp
    clear hin hR hRk hk hgk hR2
    go_wp2_with fail
    refine HW.out.mono ?_
    rintro e w7 ⟨rfl, m7, b7⟩
    have HP1 := Lib.hid (HP.out _ m7 b7)
    clear m7 b7 HW HP
    go_wp2_with fail
    refine HP1.out.mono ?_
    rintro e w8 ⟨rfl, b8⟩
    have B8 := Lib.hid b8
    clear b8 HP1
    go_wp2
    go_ret
    exact ⟨rfl, B8.out⟩
  · have HW := Lib.hid (wrote_bad M6.out a k ha2 hin)
    have HP : Hid (Calls Try.prog 23 #[.pointer (some ⟨γ, 0, none⟩)] w6 fun e w' => e = .returned (.int .i64 0) ∧ Below w.heap.size w w') := Lib.hid (by
      refine (lap_any γ (G : Int) G _ (M6.out.ar.mo γ rfl)).mono ?_
      rintro e w' ⟨rfl, _, hb⟩
      exact ⟨by simp, B6.out.trans (hb.one B6.out.size HG.out)⟩)
    go_wp2_with fail
    refine HW.out.mono ?_
    rintro e w7 ⟨rfl, rfl⟩
    go_wp2_with fail
    refine HP.out.mono ?_
    rintro e w7 ⟨rfl, b7⟩
    have B7 := Lib.hid b7
    clear b7 HW HP
    have hk := HK.out
    by_cases h1 : 0 ≤ a
    · have d1 : decide ((0 : Int) ≤ a) = true := by simpa using h1
      by_cases h2 : 0 ≤ k
      · have d2 : decide ((0 : Int) ≤ k) = true := by simpa using h2
        by_cases h3 : k ≤ (K : Int)
        · have d3 : decide (k ≤ (K : Int)) = true := by simpa using h3
          have hw : IntKind.i64.wrap ((K : Int) - k) = (K : Int) - k := IntWalk.i64_in _ (by omega)
          have d4 : decide (a ≤ (K : Int) - k) = false := by rw [decide_eq_false_iff_not]; omega
          clear hin
          go_wp2
          go_ret
          exact ⟨rfl, B7.out⟩
        · have d3 : decide (k ≤ (K : Int)) = false := by simpa using h3
          clear hin
          go_wp2
          go_ret
          exact ⟨rfl, B7.out⟩
      · have d2 : decide ((0 : Int) ≤ k) = false := by simpa using h2
        clear hin
        go_wp2
        go_ret
        exact ⟨rfl, B7.out⟩
    · have d1 : decide ((0 : Int) ≤ a) = false := by simpa using h1
      clear hin
      go_wp2
      go_ret
      exact ⟨rfl, B7.out⟩

/-! ### The frame of the row -/
set_option maxRecDepth 100000 in
theorem lifted (os : Os) (started : os.Started) (H : Type) (enc : TypeId × Value → H) :
    ReturnsInHanded {} Try.checked os 6 .any (Rows.moveWroteSpec.pre6 enc Try.prog Try.f6 Rows.moveWroteRow.domain false) (Rows.moveWroteSpec.post enc Try.prog Try.f6 false true false false) := by
  refine returnsInHanded_of_change (C := Try.checked) own started (by kernel_rfl) Try.func6
    (ChangeSpec.witness6 (enc := enc) (C := Try.checked) false ⟨#[], #[.agg #[.int .u8 0, .int .u8 0], .int .i64 0, .int .i64 0], []⟩ 8 (by kernel_rfl) (by kernel_rfl) (by kernel_rfl) (by kernel_rfl)) ?_
  intro W base args ds gs before hval0 hW hcnd _
  have hval : ∀ (j : Nat) t v, Try.f6.params[j]? = some t → args[j]? = some v → Value.okWide Try.prog W .any base t v := hval0
  have hW' := hW
  obtain ⟨p, q, hA0, hV, rfl, hfz, hnd⟩ := hW
  have hA : DataW.TrodAll enc Try.prog W 0 (fun _ => true) true Try.f6.params.toList args.toList ds p := hA0
  rw [Try.params6] at hA hval
  obtain ⟨v0, vs0, d0, ds0, p0, q0, hargs, rfl, rfl, h0, r0⟩ := trodAll_cons hA
  obtain ⟨v1, vs1, d1, ds1, p1, q1, rfl, rfl, rfl, h1, r1⟩ := trodAll_cons r0
  obtain ⟨v2, vs2, d2, ds2, p2, q2, rfl, rfl, rfl, h2, r2⟩ := trodAll_cons r1
  obtain ⟨rfl, rfl, rfl⟩ := trodAll_nil r2
  obtain rfl : args = #[v0, v1, v2] := by cases args; simp_all
  obtain ⟨rfl, rfl⟩ := trodVars_none hV
  have k0 := h0
  have lt0 : ∀ x ∈ p0, x.block < W.heap.size := by obtain ⟨m, hm⟩ := k0; exact DataW.trod_lt m _ _ _ hm
  obtain ⟨n0, n1, rfl, hn0, hn1⟩ := open_two (hval 0 58 v0 rfl rfl) h0
  obtain ⟨a, rfl, rfl, rfl, ha⟩ := open_int Try.underlying3 (hval 1 3 v1 rfl rfl) h1
  obtain ⟨k, rfl, rfl, rfl, hk⟩ := open_int Try.underlying3 (hval 2 3 v2 rfl rfl) h2
  clear hA0 hval0
  refine (walk n0 n1 a k W hn0 hn1 ha hk).mono fun e W' ⟨he, bel⟩ => ?_
  subst he
  exact ⟨_, rfl, _, _, _, [], _, [], hW', trodAll_mk1 (shut_bool Try.underlying4 _), (trodAll_cons_mk (Below.trod laidOut (by kernel_rfl) (of_decide_eq_true (by kernel_rfl)) k0 bel lt0) (trodAll_cons_mk (shut_int Try.underlying3 ha) (trodAll_cons_mk (shut_int Try.underlying3 hk) trodAll_mk0))), rfl, bel.frame _, fun h => by cases h⟩

theorem over : Rows.moveWroteRow.holds Try.pinned (OpenSpec.ofChange Rows.moveWroteSpec) :=
  OpenClaim.holds_of_wide 6 Try.f6 rfl rfl rfl rfl rfl rfl rfl ⟨rfl, rfl, rfl, rfl, rfl⟩ rfl rfl rfl rfl rfl (by kernel_rfl) Try.func6 (by kernel_rfl)
    (of_decide_eq_true (by kernel_rfl)) (by unfold Func.isWrapper; first | (rw [if_pos (by decide +kernel)]; kernel_rfl) | (rw [if_neg (by decide +kernel)]; exact ⟨rfl, rfl⟩))
    (fun os started H enc _ => lifted os started H enc)

theorem proved : Rows.MoveWroteSaid := over
#print axioms proved
end Go.Proofs.Ytadljlkflmodiaa.moveWrote
