/-
  ArenaCharges: whatever use and whatever bytes come in, the law returns true, and the input reads behind the call as it did.
-/
import Derived.Test.YtnopeifgcpibaaaRows
import Derived.WalkKit
import Derived.ProofKit
import Derived.OpenShut
import Derived.Test.YtnopeifgcpibaaaArenaAwake
import Derived.Test.YtnopeifgcpibaaaArenaOut
import Derived.ShutString
import Derived.ChangeOld
import Derived.Below
namespace Go.Proofs.Ytnopeifgcpibaaa.arenaCharges
open Go.ChangeShapes Go.WideShapes Go.ChangeAt Go.RowKit
open Go.ChangeMaps (open_string shut_string)
set_option linter.unusedVariables false

theorem own : ownKnob Try.prog.godebug = none := by kernel_rfl
theorem laidOut : laidOutB Try.prog = true := by kernel_rfl

theorem more_at {s : Int} (h0 : 0 ≤ s) (h1 : s ≤ 1000) : more 128 s = 128 + s := by
  unfold more
  split
  · omega
  · split <;> omega

/-! ### The walk -/
theorem walk (u : Us) (ab : Option Addr) (lb cb : Nat) (b : List Int) (w : World) (hu : u.Ok w w.heap.size) (hb : Bytes w w.heap.size ab lb b) (hcb : lb ≤ cb) :
    Calls Try.prog 5 #[.agg #[.int .u8 u.kind, .int .i64 u.at_, .int .i64 u.from_, .int .i64 u.n, .int .u64 u.v, .slice u.ba u.bn u.bc], .slice ab lb cb] w fun e w' => e = .returned (.bool true) ∧ Below w.heap.size w w' := by
  have hmax := hb.max
  have umax := hu.bytes.max
  have bx := below1 w (.cells #[.int .u8 u.kind, .int .i64 u.at_, .int .i64 u.from_, .int .i64 u.n, .int .u64 u.v, .slice u.ba u.bn u.bc] 40)
  have x0 := UBox.new w u
  go_enter Try.func5, Try.ntmps5
  go_wp2_with fail
  refine (awake06_any (w.alloc (.cells #[.int .u8 u.kind, .int .i64 u.at_, .int .i64 u.from_, .int .i64 u.n, .int .u64 u.v, .slice u.ba u.bn u.bc] 40))).mono ?_
  rintro e w0 ⟨rfl, h0⟩
  have X0 := Lib.hid (x0.below h0 (by simp))
  have H0 := Lib.hid (belowT bx h0)
  have G0 : Hid (w.heap.size < w0.heap.size) := Lib.hid (by have := h0.size; simp at this; omega)
  clear x0 bx h0
  by_cases h128 : lb = 128
  · subst h128
    by_cases h200 : 200 < u.bn
    · have d : decide ((200 : Int) < (u.bn : Int)) = true := by simp; omega
      have c5 := X0.out.c5
      go_wp2
      go_ret
      exact ⟨rfl, H0.out⟩
    · have d : decide ((200 : Int) < (u.bn : Int)) = false := by simp; omega
      have c5 := X0.out.c5
      go_wp2_with fail
      refine (new_any w0).mono ?_
      rintro e w1 ⟨rfl, m1, b1, s1⟩
      have B1 := Lib.hid (belowT H0.out b1)
      have X1 := Lib.hid (X0.out.below b1 G0.out)
      generalize hg : w0.heap.size = g at m1 s1
      have HG : Hid (w.heap.size < g) := Lib.hid (by rw [← hg]; exact G0.out)
      have S1 := Lib.hid s1
      have HM := Lib.hid m1
      clear m1 b1 s1 c5 hg
      go_wp2_with fail
      refine (arenaNew_ok 2 64 (some g) 0 0 w1 (by decide) (Mo.one HM.out) (fun q e => by cases e; exact S1.out)).mono ?_
      rintro e w2 ⟨p, q, rfl, a2, b2, hp, hq⟩
      have B2 := Lib.hid (belowT B1.out b2)
      have X2 := Lib.hid (X1.out.below b2 (Nat.lt_trans HG.out S1.out))
      have HQ : Hid (w.heap.size < q) := Lib.hid (Nat.lt_of_lt_of_le (Nat.lt_trans HG.out S1.out) hq)
      have HW := Lib.hid (write_whole (c := cb) a2 (by simp) (hb.below B2.out) B2.out.size (fun g e => by cases e; exact Nat.le_of_lt HG.out))
      clear a2 b2 hp hq
      go_wp2_with fail
      refine HW.out.mono ?_
      rintro e w3 ⟨rfl, a3, b3⟩
      have C3 : Hid (Below (w.heap.size + 1) w2 w3) := Lib.hid (Ar.mine b3 (by have := a3.size; have := B2.out.size; have := HQ.out; have := X2.out.c0; exact lt_of_cell X2.out.c0) HQ.out (fun g e => by cases e; exact HG.out))
      have B3 := Lib.hid (B2.out.trans (C3.out.mono (Nat.le_succ _)))
      have X3 := Lib.hid (X2.out.below C3.out (by omega))
      have HT : more 0 ((128 : Nat) : Int) = 128 := by decide
      rw [HT] at a3
      have A3 := Lib.hid a3
      clear a3 b3 HW HT C3
      go_wp2_with fail
      refine (lap_any g 128 0 w3 (A3.out.mo g rfl)).mono ?_
      rintro e w4 ⟨rfl, m4, b4⟩
      have A4 := Lib.hid (A3.out.metered m4 b4)
      have C4 : Hid (Below (w.heap.size + 1) w3 w4) := Lib.hid (b4.one (lt_of_cell X3.out.c0) HG.out)
      have B4 := Lib.hid (B3.out.trans (C4.out.mono (Nat.le_succ _)))
      have X4 := Lib.hid (X3.out.below C4.out (by omega))
      have HD := Lib.hid (do_any A4.out u w.heap.size (hu.below B4.out) B4.out.size (fun g e => by cases e; exact Nat.le_of_lt HG.out))
      clear m4 b4
      obtain ⟨y0, y1, y2, y3, y4, y5⟩ := X4.out
      go_wp2_with fail
      refine HD.out.mono ?_
      rintro e w5 ⟨a5, n5, c5, rfl, t5, r5, b5, _⟩
      have C5 : Hid (Below (w.heap.size + 1) w4 w5) := Lib.hid (Ar.mine b5 (lt_of_cell X4.out.c0) HQ.out (fun g e => by cases e; exact HG.out))
      have B5 := Lib.hid (B4.out.trans (C5.out.mono (Nat.le_succ _)))
      have X5 := Lib.hid (X4.out.below C5.out (by omega))
      have HO := Lib.hid (useOut_cases u b hu.bytes.len)
      have HN := Lib.hid ((useOut_len u b hu.bytes.len).trans hb.len)
      generalize useOut u b = o at HO HN r5 ⊢
      have A5 := Lib.hid r5
      clear y0 y1 y2 y3 y4 y5 t5 r5 b5 HD
      have H1 := Lib.hid (lap_any g _ 128 w5 (A5.out.mo g rfl))
      go_wp2_with fail
      refine H1.out.mono ?_
      rintro e w6 ⟨rfl, m6, b6⟩
      have A6 := Lib.hid (A5.out.metered m6 b6)
      have C6 : Hid (Below (w.heap.size + 1) w5 w6) := Lib.hid (b6.one (lt_of_cell X5.out.c0) HG.out)
      have B6 := Lib.hid (B5.out.trans (C6.out.mono (Nat.le_succ _)))
      have X6 := Lib.hid (X5.out.below C6.out (by omega))
      clear m6 b6 H1
      have H2 := Lib.hid (read_whole A6.out HN.out)
      go_wp2_with fail
      refine H2.out.mono ?_
      rintro e w7 ⟨f, rfl, r7, a7, b7, hf⟩
      have C7 : Hid (Below (w.heap.size + 1) w6 w7) := Lib.hid (Ar.mine b7 (lt_of_cell X6.out.c0) HQ.out (fun g e => by cases e; exact HG.out))
      have B7 := Lib.hid (B6.out.trans (C7.out.mono (Nat.le_succ _)))
      have X7 := Lib.hid (X6.out.below C7.out (by omega))
      have R7 := Lib.hid r7
      clear r7 a7 b7 hf H2
      rcases HO.out with ⟨he, hx, hs⟩ | ⟨he, _, hs, hw0, hw1⟩
      · have he2 : (o.err == 0) = false := by simpa using he
        have he3 : (o.err != 0) = true := by simpa using he
        have hst : more 128 o.steps - 128 = 0 := by rw [hs]; decide
        rw [hx] at R7
        have hs1 : (convert 31 9 (.slice (some ⟨f, 0, none⟩) 128 128)).run Try.prog w7 = .ok (.string (strOfNums b)) w7 := string_run (R7.out.all hb.len)
        have hs2 : (convert 31 9 (.slice ab 128 cb)).run Try.prog w7 = .ok (.string (strOfNums b)) w7 := string_run (hb.below B7.out)
        generalize strOfNums b = S at hs1 hs2
        clear hs hx he
        go_wp2
        go_ret
        exact ⟨rfl, B7.out⟩
      · have he2 : (o.err == 0) = true := by simpa using he
        have he3 : (o.err != 0) = false := by simpa using he
        have hst : more 128 o.steps - 128 = wantOf u := by rw [hs, more_at hw0 (by rw [hb.len] at hw1; omega)]; omega
        obtain ⟨z0, z1, z2, z3, z4, z5⟩ := X7.out
        have hk := hu.kind
        have hr : u.kind.tmod 6 = u.kind % 6 := Int.tmod_eq_emod_of_nonneg (by omega)
        unfold wantOf at hst
        generalize hrr : u.kind % 6 = r at hst hr
        have hr6 : r < 6 := by omega
        clear hs he hw0 hw1 hrr
        by_cases r1 : r = 1
        · subst r1
          rw [if_pos rfl] at hst
          go_wp2
          go_ret
          exact ⟨rfl, B7.out⟩
        · have q1 : (r == 1) = false := by simpa using r1
          rw [if_neg r1] at hst
          by_cases r3 : 3 < r
          · have q3 : decide (3 < r) = true := by simpa using r3
            rw [if_pos r3] at hst
            go_wp2
            go_ret
            exact ⟨rfl, B7.out⟩
          · have q3 : decide (3 < r) = false := by simpa using r3
            rw [if_neg r3] at hst
            go_wp2
            go_ret
            exact ⟨rfl, B7.out⟩
  · have d : (((lb : Int)) != 128) = true := by simp; omega
    go_wp2
    go_ret
    exact ⟨rfl, H0.out⟩

/-! ### The frame of the row -/
set_option maxRecDepth 100000 in
theorem lifted (os : Os) (started : os.Started) (H : Type) (enc : TypeId × Value → H) :
    ReturnsInHanded {} Try.checked os 5 .any (Rows.arenaChargesSpec.pre6 enc Try.prog Try.f5 Rows.arenaChargesRow.domain false) (Rows.arenaChargesSpec.post enc Try.prog Try.f5 false true false false) := by
  refine returnsInHanded_of_change (C := Try.checked) own started (by kernel_rfl) Try.func5
    (ChangeSpec.witness6 (enc := enc) (C := Try.checked) false ⟨#[], #[.agg #[.int .u8 0, .int .i64 0, .int .i64 0, .int .i64 0, .int .u64 0, .slice none 0 0], .slice none 0 0], []⟩ 8 (by kernel_rfl) (by kernel_rfl) (by kernel_rfl) (by kernel_rfl)) ?_
  intro W base args ds gs before hval0 hW hcnd _
  have hval : ∀ (j : Nat) t v, Try.f5.params[j]? = some t → args[j]? = some v → Value.okWide Try.prog W .any base t v := hval0
  have hW' := hW
  obtain ⟨p, q, hA0, hV, rfl, hfz, hnd⟩ := hW
  have hA : DataW.TrodAll enc Try.prog W 0 (fun _ => true) true Try.f5.params.toList args.toList ds p := hA0
  rw [Try.params5] at hA hval
  obtain ⟨v0, vs0, d0, ds0, p0, q0, hargs, rfl, rfl, h0, r0⟩ := trodAll_cons hA
  obtain ⟨v1, vs1, d1, ds1, p1, q1, rfl, rfl, rfl, h1, r1⟩ := trodAll_cons r0
  obtain ⟨rfl, rfl, rfl⟩ := trodAll_nil r1
  obtain rfl : args = #[v0, v1] := by cases args; simp_all
  obtain ⟨rfl, rfl⟩ := trodVars_none hV
  have k0 := h0
  have lt0 : ∀ x ∈ p0, x.block < W.heap.size := by obtain ⟨m, hm⟩ := k0; exact DataW.trod_lt m _ _ _ hm
  obtain ⟨u, rfl, hu⟩ := open_use (hval 0 40 v0 rfl rfl) h0
  have k1 := h1
  have lt1 : ∀ x ∈ p1, x.block < W.heap.size := by obtain ⟨m, hm⟩ := k1; exact DataW.trod_lt m _ _ _ hm
  obtain ⟨ab, lb, cb, rfl⟩ := okWide_slice Try.underlying31 (hval 1 31 v1 rfl rfl)
  obtain ⟨b, hcb, hb⟩ : ∃ xs, lb ≤ cb ∧ Bytes W W.heap.size ab lb xs := by
    obtain ⟨fuel, hf⟩ := h1
    obtain ⟨a, l, c, xs, e, hl, hi⟩ := bytes_field (by simpa [Value.cells] using hf)
    injection e with e1 e2 e3
    subst e1 e2 e3
    exact ⟨xs, hl, hi⟩
  clear hA0 hval0
  refine (walk u ab lb cb b W hu hb hcb).mono fun e W' ⟨he, bel⟩ => ?_
  subst he
  exact ⟨_, rfl, _, _, _, [], _, [], hW', trodAll_mk1 (shut_bool Try.underlying4 _), (trodAll_cons_mk (Below.trod laidOut (by kernel_rfl) (of_decide_eq_true (by kernel_rfl)) k0 bel lt0) (trodAll_cons_mk (Below.trod laidOut (by kernel_rfl) (of_decide_eq_true (by kernel_rfl)) k1 bel lt1) trodAll_mk0)), rfl, bel.frame _, fun h => by cases h⟩

theorem over : Rows.arenaChargesRow.holds Try.pinned (OpenSpec.ofChange Rows.arenaChargesSpec) :=
  OpenClaim.holds_of_wide 5 Try.f5 rfl rfl rfl rfl rfl rfl rfl ⟨rfl, rfl, rfl, rfl, rfl⟩ rfl rfl rfl rfl rfl (by kernel_rfl) Try.func5 (by kernel_rfl)
    (of_decide_eq_true (by kernel_rfl)) (by unfold Func.isWrapper; first | (rw [if_pos (by decide +kernel)]; kernel_rfl) | (rw [if_neg (by decide +kernel)]; exact ⟨rfl, rfl⟩))
    (fun os started H enc _ => lifted os started H enc)

theorem proved : Rows.ArenaChargesSaid := over
#print axioms proved
end Go.Proofs.Ytnopeifgcpibaaa.arenaCharges
