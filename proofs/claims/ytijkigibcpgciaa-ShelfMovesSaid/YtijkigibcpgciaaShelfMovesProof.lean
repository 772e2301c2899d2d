/-
  ShelfMoves: what may move is a block that isn't free, to one that is, on another page; moved, there are no more open pages, and as many blocks. No condition.
-/
import Derived.Test.YtijkigibcpgciaaRows
import Derived.WalkKit
import Derived.ProofKit
import Derived.OpenShut
import Derived.Test.YtijkigibcpgciaaShAwake
import Derived.Test.YtijkigibcpgciaaShMove
import Derived.ShutString
import Derived.ChangeOld
import Derived.Below
namespace Go.Proofs.Ytijkigibcpgciaa.shelfMoves
open Go.ChangeShapes Go.WideShapes Go.ChangeAt Go.RowKit
open Go.ChangeMaps (open_string shut_string)
set_option linter.unusedVariables false

theorem own : ownKnob Try.prog.godebug = none := by kernel_rfl
theorem laidOut : laidOutB Try.prog = true := by kernel_rfl

/-! ### The walk -/
set_option maxRecDepth 100000 in
set_option maxHeartbeats 4000000 in
theorem walk (n : Int) (al : Option Addr) (ll cl : Nat) (l : List Ac) (w : World) (hn : (Lit.int .u8 n).wf = true) (hl : Acts w w.heap.size al ll l) (hcl : ll ≤ cl) :
    Calls Try.prog 6 #[.int .u8 n, .slice al ll cl] w fun e w' => e = .returned (.bool true) ∧ Below w.heap.size w w' := by
  have hmax := hl.max
  have A := Lib.hid (Sh.awake13_any w)
  have n12 := wfu8 hn
  obtain ⟨B, hB⟩ : ∃ B : Nat, 1 + n % 4 = (B : Int) := ⟨(1 + n % 4).toNat, by omega⟩
  have hB1 : 1 ≤ B := by omega
  have hB2 : B ≤ 4 := by omega
  have hm : n.tmod 4 = (B : Int) - 1 := by rw [Int.tmod_eq_emod_of_nonneg (by omega)]; omega
  have hm2 : n % 4 = (B : Int) - 1 := by omega
  have wB : IntKind.i64.wrap (1 + ((B : Int) - 1)) = (B : Int) := by rw [IntWalk.i64_in _ (by omega)]; omega
  have wn : IntKind.i64.wrap n = n := IntWalk.i64_in _ (by omega)
  have HN : Hid (∀ w, Calls Try.prog 10 #[.int .i64 9] w fun e w' => ∃ p a, e = .returned (.tuple #[.pointer (some ⟨p, 0, none⟩), .int .i64 0]) ∧ Pl.Pm w' p a 9 (Pl.freed 9) (Pl.turns 9) ∧ Below w.heap.size w w' ∧ w.heap.size ≤ p ∧ w.heap.size ≤ a) := Lib.hid fun w => Pl.new_ok 9 w (by omega) (by omega)
  have HS : Hid (∀ v w1 pp pa, Pl.Pm w1 pp pa 9 (Pl.freed 9) (Pl.turns 9) → Below v.heap.size v w1 → v.heap.size ≤ pp → v.heap.size ≤ pa → Calls Try.prog 11 #[.pointer (some ⟨pp, 0, none⟩), .int .i64 3, .int .i64 (B : Int)] w1 fun e w2 => ∃ x : Sh.Fx, e = .returned (.tuple #[.pointer (some ⟨x.s, 0, none⟩), .int .i64 0]) ∧ (x.pp = pp ∧ x.K = 9 ∧ x.B = B ∧ x.c = 3) ∧ Sh.Hx v x ⟨Pl.freed 9, Pl.turns 9, [], []⟩ w2) := Lib.hid fun v w1 pp pa r1 b1 l1 l2 => (Sh.shNew_ok r1 3 (by omega) (by omega) B (by omega) (by omega)).mono fun e w2 h => Sh.Hx.new b1 l1 l2 h
  clear hB hn n12
  go_enter Try.func6, Try.ntmps6
  go_wp2_with fail
  refine A.out.mono ?_
  rintro e w0 ⟨rfl, h0⟩
  have H0 := Lib.hid h0
  clear h0
  by_cases hll : 30 < ll
  · have d1 : decide ((30 : Int) < (ll : Int)) = true := by simp; omega
    go_wp2
    go_ret
    exact ⟨rfl, H0.out⟩
  have d1 : decide ((30 : Int) < (ll : Int)) = false := by simp; omega
  go_wp2_with fail
  refine (HN.out w0).mono ?_
  rintro e w1 ⟨pp, pa, rfl, r1, b1, l1, l2⟩
  have HS1 := Lib.hid (HS.out w w1 pp pa r1 (belowT H0.out b1) (Nat.le_trans H0.out.size l1) (Nat.le_trans H0.out.size l2))
  clear b1 r1 l1 l2 HS HN H0 A
  go_wp2_with fail
  refine HS1.out.mono ?_
  rintro e w2 ⟨x, rfl, ⟨hpp, hK, hBB, hcc⟩, h2⟩
  have H2 := Lib.hid h2
  have FX := Lib.hid (show x.B = B ∧ x.c = 3 ∧ x.K = 9 from ⟨hBB, hcc, hK⟩)
  have EP := Lib.hid hpp
  have HB12 := Lib.hid (show 1 ≤ B ∧ B ≤ 4 from ⟨hB1, hB2⟩)
  clear h2 hK hBB hcc hpp HS1 hm hm2 wB wn
  go_wp2
  go_loopw [11] (fun i wr => ∃ (k : Nat) (s : Sh.Shl), k ≤ ll ∧ i = .int .i64 k ∧ Hid (Sh.Hx w x s wr)) (fun i _ => ll - (intOf i).toNat)
  case atStart => exact ⟨0, _, by omega, rfl, H2⟩
  case round =>
    obtain ⟨k, s, hk, rfl, HX⟩ := hrel
    clear H2
    by_cases hlt : k < ll
    · have dk : decide ((k : Int) < (ll : Int)) = true := by simp; omega
      have HBW : Hid (Below w.heap.size w wr) := Lib.hid (by obtain ⟨_, _, _, _, b⟩ := HX.out; exact b)
      have U1 := Lib.hid (hl.below HBW.out)
      obtain ⟨b0, o0, rfl, hb0, hc0⟩ := U1.out.head (by omega)
      obtain ⟨u, hu, hfit⟩ := U1.out.at_ hlt
      have k0 : wr.cell? ⟨b0, o0 + k * 4, none⟩ = some (.int .u8 u.kind) := hc0 k u hu 0 _ rfl
      have k1 : wr.cell? ⟨b0, o0 + k * 4 + 1, none⟩ = some (.int .i64 u.page) := hc0 k u hu 1 _ rfl
      have k2 : wr.cell? ⟨b0, o0 + k * 4 + 2, none⟩ = some (.int .i64 u.at_) := hc0 k u hu 2 _ rfl
      have k3 : wr.cell? ⟨b0, o0 + k * 4 + 3, none⟩ = some (.int .i64 u.own) := hc0 k u hu 3 _ rfl
      obtain ⟨kind, page, at_, own⟩ := u
      simp only at k0 k1 k2 k3
      have HC := Lib.hid (HX.out.act kind page at_ own hfit)
      clear hc0 hu hb0 U1 hfit HBW HX
      generalize Sh.actS x.c x.B s ⟨kind, page, at_, own⟩ = r at HC
      obtain ⟨t, y1, y2, y3⟩ := r
      simp only at HC
      go_wp2_with fail
      refine HC.out.mono ?_
      rintro e w4 ⟨rfl, h4⟩
      have H4 := Lib.hid h4
      clear h4 HC k0 k1 k2 k3
      go_wp2
      go_roundw
      case rel => exact ⟨k + 1, t, by omega, by go_num, H4⟩
      case measure => simp [intOf]; omega
    · have dk : decide ((k : Int) < (ll : Int)) = false := by simp; omega
      have HP := Lib.hid HX.out.plan
      rcases (by omega : s.op.length < 2 ∨ 2 ≤ s.op.length) with ho | ho
      · rw [show Sh.planS s = none by unfold Sh.planS; rw [if_pos ho]] at HP
        unfold Sh.planV at HP
        have c1 : decide ((s.op.length : Int) < 2) = true := by simp; omega
        go_wp2_with fail
        refine HP.out.mono ?_
        rintro e w5 ⟨rfl, h5⟩
        have H6 := Lib.hid (h5.grow (below1 w5 (.cells #[.int .i64 0, .int .i64 0, .int .i64 0, .int .i64 0] 53)))
        have HO := Lib.hid H6.out.opens
        generalize (s.op.length : Int) = y at HO c1
        clear h5 HP HX ho
        go_wp2_with fail
        refine HO.out.mono ?_
        rintro e v ⟨rfl, rfl⟩
        go_wp2
        go_ret
        obtain ⟨_, _, _, _, b⟩ := H6.out
        exact ⟨rfl, b⟩
      · obtain ⟨f, t, o, i, j, s1, s2, hm⟩ : ∃ f t o i j s1 s2, Sh.Mv x.c x.B s f t o i j s1 s2 := by
          obtain ⟨_, _, q, _, _⟩ := HX.out
          have fx := FX.out
          have hb := HB12.out
          exact Sh.moves q.sw q.uw (by omega) (by omega) ho
        rw [hm.plan] at HP
        unfold Sh.planV at HP
        have HM := Lib.hid hm
        clear hm ho
        go_wp2_with fail
        refine HP.out.mono ?_
        rintro e w5 ⟨rfl, h5⟩
        obtain ⟨P, hP⟩ : ∃ P, P = w5.heap.size := ⟨_, rfl⟩
        obtain ⟨v0, hv0⟩ : ∃ v0, v0 = w5.alloc (.cells #[.int .i64 f, .int .i64 (j : Int), .int .i64 t, .int .i64 (i : Int)] 53) := ⟨_, rfl⟩
        have HK : Hid (Sh.Hk v0 (fun n => n = P ∨ n < w.heap.size) x s v0) := Lib.hid (by
          obtain ⟨A, lab, q, hl0, b⟩ := h5
          refine ⟨A, lab, by rw [hv0]; exact q.below (below1 w5 _), fun n _ hn => ?_, But.refl _ _⟩
          cases e : lab n with
          | none => rfl
          | some y =>
            have f1 := q.sr.fin n (by rw [e]; simp)
            have f2 := hl0 n (by rw [e]; simp)
            omega)
        have HBv : Hid (Below w.heap.size w v0) := Lib.hid (by
          obtain ⟨A, lab, q, hl0, b⟩ := h5
          rw [hv0]
          exact belowT b (below1 w5 _))
        have KC : Hid (∀ v, But (fun n => ¬ (n = P ∨ n < w.heap.size)) v0 v → v.cell? ⟨P, 0, none⟩ = some (.int .i64 f) ∧ v.cell? ⟨P, 1, none⟩ = some (.int .i64 (j : Int)) ∧ v.cell? ⟨P, 2, none⟩ = some (.int .i64 t) ∧ v.cell? ⟨P, 3, none⟩ = some (.int .i64 (i : Int)) ∧ Below w.heap.size w v) := Lib.hid (fun v hv => by
          have hl : P < v0.heap.size := by rw [hv0, hP]; simp
          have c0 : v0.cell? ⟨P, 0, none⟩ = some (.int .i64 f) := by rw [hv0, hP]; go_simp
          have c1 : v0.cell? ⟨P, 1, none⟩ = some (.int .i64 (j : Int)) := by rw [hv0, hP]; go_simp
          have c2 : v0.cell? ⟨P, 2, none⟩ = some (.int .i64 t) := by rw [hv0, hP]; go_simp
          have c3 : v0.cell? ⟨P, 3, none⟩ = some (.int .i64 (i : Int)) := by rw [hv0, hP]; go_simp
          have no : ¬ ¬ (P = P ∨ P < w.heap.size) := fun q => q (Or.inl rfl)
          exact ⟨(hv.cell (p := ⟨P, 0, none⟩) hl no).trans c0, (hv.cell (p := ⟨P, 1, none⟩) hl no).trans c1, (hv.cell (p := ⟨P, 2, none⟩) hl no).trans c2, (hv.cell (p := ⟨P, 3, none⟩) hl no).trans c3, HBv.out.trans (hv.below HBv.out.size fun n hn q => q (Or.inr hn))⟩)
        obtain ⟨z0, z1, z2, z3, _⟩ := KC.out v0 (But.refl _ _)
        have L1 := Lib.hid (HK.out.owner HM.out.ff HM.out.fj)
        have L2 := Lib.hid (HK.out.owner HM.out.ft HM.out.fi)
        have L3 := Lib.hid HK.out.opens
        have L4 := Lib.hid HK.out.used
        have L5 := Lib.hid (HK.out.take o HM.out.o1)
        rw [HM.out.own] at L1
        rw [HM.out.free] at L2
        rw [HM.out.take] at L5
        have o0 := HM.out.o0
        have d0 : decide (o < 0) = false := by simpa using o0
        have d0' : ¬ o < 0 := by omega
        have d3 : decide (0 ≤ o) = true := by simpa using o0
        have ft : (f != t) = true := by simpa using HM.out.ne
        have ft' : ¬ f = t := HM.out.ne
        have EV := Lib.hid hv0
        have EPv := Lib.hid hP
        clear hv0 hP h5 HP HX dk
        go_wp2_with fail
        rw [← EV.out, ← EPv.out]
        refine L1.out.mono ?_
        rintro e v ⟨rfl, rfl⟩
        go_wp2_with fail
        refine L2.out.mono ?_
        rintro e v ⟨rfl, rfl⟩
        go_wp2_with fail
        refine L3.out.mono ?_
        rintro e v ⟨rfl, rfl⟩
        go_wp2_with fail
        refine L4.out.mono ?_
        rintro e v ⟨rfl, rfl⟩
        go_wp2_with fail
        refine L5.out.mono ?_
        rintro e v1 ⟨rfl, h6⟩
        obtain ⟨y0, y1, y2, y3, _⟩ := KC.out v1 (by obtain ⟨_, _, _, _, b⟩ := h6; exact b)
        have L6 := Lib.hid (h6.give HM.out.ff (j : Int))
        rw [HM.out.give] at L6
        clear L1 L2 L3 L4 L5 h6 z0 z1 z2 z3
        go_wp2_with fail
        refine L6.out.mono ?_
        rintro e v2 ⟨rfl, h7⟩
        obtain ⟨x0, x1, x2, x3, b7⟩ := KC.out v2 (by obtain ⟨_, _, _, _, b⟩ := h7; exact b)
        have HB7 := Lib.hid b7
        have L7 := Lib.hid h7.opens
        have L8 := Lib.hid h7.used
        rw [HM.out.used] at L8
        have fw := HM.out.fewer
        have d4 : decide ((s2.op.length : Int) ≤ (s.op.length : Int)) = true := by simpa using fw
        generalize s2.op.length = p1 at L7 d4 fw
        generalize s.op.length = p2 at L7 d4 fw
        generalize Sh.usedS s.ps = p3 at L8
        clear h7 y0 y1 y2 y3 L6 b7
        go_wp2_with fail
        refine L7.out.mono ?_
        rintro e v ⟨rfl, rfl⟩
        go_wp2_with fail
        refine L8.out.mono ?_
        rintro e v ⟨rfl, rfl⟩
        go_wp2
        go_ret
        exact ⟨by first | rfl | (simp; done), HB7.out⟩

/-! ### The frame of the row -/
set_option maxRecDepth 100000 in
theorem lifted (os : Os) (started : os.Started) (H : Type) (enc : TypeId × Value → H) :
    ReturnsInHanded {} Try.checked os 6 .any (Rows.shelfMovesSpec.pre6 enc Try.prog Try.f6 Rows.shelfMovesRow.domain false) (Rows.shelfMovesSpec.post enc Try.prog Try.f6 false true false false) := by
  refine returnsInHanded_of_change (C := Try.checked) own started (by kernel_rfl) Try.func6
    (ChangeSpec.witness6 (enc := enc) (C := Try.checked) false ⟨#[], #[.int .u8 0, .slice none 0 0], []⟩ 8 (by kernel_rfl) (by kernel_rfl) (by kernel_rfl) (by kernel_rfl)) ?_
  intro W base args ds gs before hval0 hW hcnd _
  have hval : ∀ (j : Nat) t v, Try.f6.params[j]? = some t → args[j]? = some v → Value.okWide Try.prog W .any base t v := hval0
  have hW' := hW
  obtain ⟨p, q, hA0, hV, rfl, hfz, hnd⟩ := hW
  have hA : DataW.TrodAll enc Try.prog W 0 (fun _ => true) true Try.f6.params.toList args.toList ds p := hA0
  rw [Try.params6] at hA hval
  obtain ⟨v0, vs0, d0, ds0, p0, q0, hargs, rfl, rfl, h0, r0⟩ := trodAll_cons hA
  obtain ⟨v1, vs1, d1, ds1, p1, q1, rfl, rfl, rfl, h1, r1⟩ := trodAll_cons r0
  obtain ⟨rfl, rfl, rfl⟩ := trodAll_nil r1
  obtain rfl : args = #[v0, v1] := by cases args; simp_all
  obtain ⟨rfl, rfl⟩ := trodVars_none hV
  obtain ⟨n, rfl, rfl, rfl, hn⟩ := open_int Try.underlying5 (hval 0 5 v0 rfl rfl) h0
  have k1 := h1
  have lt1 : ∀ x ∈ p1, x.block < W.heap.size := by obtain ⟨m, hm⟩ := k1; exact DataW.trod_lt m _ _ _ hm
  obtain ⟨al, ll, cl, rfl⟩ := okWide_slice Try.underlying22 (hval 1 22 v1 rfl rfl)
  obtain ⟨l, hcl, hl⟩ : ∃ xs, ll ≤ cl ∧ Acts W W.heap.size al ll xs := by
    obtain ⟨fuel, hf⟩ := h1
    obtain ⟨a, l, c, xs, e, hl, hi⟩ := acts_field (by simpa [Value.cells] using hf)
    injection e with e1 e2 e3
    subst e1 e2 e3
    exact ⟨xs, hl, hi⟩
  clear hA0 hval0
  refine (walk n al ll cl l W hn hl hcl).mono fun e W' ⟨he, bel⟩ => ?_
  subst he
  exact ⟨_, rfl, _, _, _, [], _, [], hW', trodAll_mk1 (shut_bool Try.underlying4 _), (trodAll_cons_mk (shut_int Try.underlying5 hn) (trodAll_cons_mk (Below.trod laidOut (by kernel_rfl) (of_decide_eq_true (by kernel_rfl)) k1 bel lt1) trodAll_mk0)), rfl, bel.frame _, fun h => by cases h⟩

theorem over : Rows.shelfMovesRow.holds Try.pinned (OpenSpec.ofChange Rows.shelfMovesSpec) :=
  OpenClaim.holds_of_wide 6 Try.f6 rfl rfl rfl rfl rfl rfl rfl ⟨rfl, rfl, rfl, rfl, rfl⟩ rfl rfl rfl rfl rfl (by kernel_rfl) Try.func6 (by kernel_rfl)
    (of_decide_eq_true (by kernel_rfl)) (by unfold Func.isWrapper; first | (rw [if_pos (by decide +kernel)]; kernel_rfl) | (rw [if_neg (by decide +kernel)]; exact ⟨rfl, rfl⟩))
    (fun os started H enc _ => lifted os started H enc)

theorem proved : Rows.ShelfMovesSaid := over
#print axioms proved
end Go.Proofs.Ytijkigibcpgciaa.shelfMoves
