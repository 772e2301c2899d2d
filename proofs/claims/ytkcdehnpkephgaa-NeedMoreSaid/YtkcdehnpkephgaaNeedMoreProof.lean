/-
  almerylaw17.NeedMore returns true for every layout, every slice of ints and every int, and all memory that was there is as it was. No condition.
-/
import Derived.Test.YtkcdehnpkephgaaRows
import Derived.WalkKit
import Derived.ProofKit
import Derived.OpenShut
import Derived.Test.YtkcdehnpkephgaaNeedAwake
import Derived.Test.YtkcdehnpkephgaaNeedRefPages
import Derived.Test.YtkcdehnpkephgaaConfRefMay
import Derived.Test.YtkcdehnpkephgaaConfOpen
import Derived.Test.YtkcdehnpkephgaaIntsCut
import Derived.Test.YtkcdehnpkephgaaHeldOff
import Derived.ShutString
import Derived.ChangeOld
import Derived.Below
namespace Go.Proofs.Ytkcdehnpkephgaa.needMore
open Go.ChangeShapes Go.WideShapes Go.ChangeAt Go.RowKit
open Go.ChangeMaps (open_string shut_string)
set_option linter.unusedVariables false

theorem own : ownKnob Try.prog.godebug = none := by kernel_rfl
theorem laidOut : laidOutB Try.prog = true := by kernel_rfl

/-- Pages of a list, and of the list with a thing more. -/
theorem more_ways {c : Cf} (h : MayC c) {l : List Int} (hl : l.length ≤ 1000) (x : Int) :
    ∃ p0 r0 p1 r1 : Int, pagesOut c l = (p0, r0) ∧ pagesOut c (l ++ [x]) = (p1, r1) ∧
      ((r0 = 3 ∧ r1 = 3) ∨ (r0 = 0 ∧ r1 = 3 ∧ isT c x = false) ∨ (r0 = 0 ∧ r1 = 0 ∧ small c < x ∧ p1 = p0 + allOf x c.size ∧ 0 ≤ p0 ∧ p0 ≤ 5000000000000 ∧ 0 ≤ allOf x c.size ∧ allOf x c.size ≤ 4194305) ∨ (r0 = 0 ∧ r1 = 0 ∧ ¬ small c < x ∧ p0 ≤ p1 ∧ p1 ≤ p0 + 1 ∧ 0 ≤ p0 ∧ p0 ≤ 5000000000000)) := by
  have hb : (l ++ [x]).all (isT c) = (l.all (isT c) && isT c x) := by rw [all_app]; simp
  have off : ∀ r : List Int, r.all (isT c) = false → pagesOut c r = (0, 3) := fun r hr => if_neg (by rw [hr]; simp)
  cases h1 : l.all (isT c) with
  | false =>
    rw [h1, Bool.false_and] at hb
    exact ⟨_, _, _, _, off _ h1, off _ hb, .inl ⟨rfl, rfl⟩⟩
  | true =>
    have q := pagesN_in h (l := l) (by omega) h1
    cases h2 : isT c x with
    | false =>
      rw [h2, Bool.and_false] at hb
      exact ⟨_, _, _, _, pages_on h1, off _ hb, .inr (.inl ⟨rfl, rfl, rfl⟩)⟩
    | true =>
      rw [h1, h2] at hb
      obtain ⟨t1, t2⟩ := isT_true.1 h2
      by_cases hs : small c < x
      · have ha := allOf_bounds (n := x) (p := c.size) (by have := h.large; omega)
        exact ⟨_, _, _, _, pages_on h1, pages_on hb, .inr (.inr (.inl ⟨rfl, rfl, hs, more_large h hs, q.1, q.2, ha.1, ha.2⟩))⟩
      · have hm := more_small h (l := l) t1 t2 (by omega)
        exact ⟨_, _, _, _, pages_on h1, pages_on hb, .inr (.inr (.inr ⟨rfl, rfl, hs, hm.1, hm.2, q.1, q.2⟩))⟩

theorem pages_tb {c : Cf} {l : List Int} {p r : Int} {w : World} {args : Array Value} (e : pagesOut c l = (p, r)) (h : Calls Try.prog 10 args w (PagesEnd c l w)) : Calls Try.prog 10 args w (TB p r w) := by
  unfold PagesEnd at h
  rw [e] at h
  exact h

/-! ### The walk -/
set_option maxRecDepth 20000 in
set_option maxHeartbeats 2000000 in
theorem walk (c : Cf) (al : Option Addr) (ll cl : Nat) (l : List Int) (x : Int) (w : World) (hc : c.Ok w w.heap.size) (hcc : c.cn ≤ c.cc) (hkc : c.kn ≤ c.kc) (hl : Ints w w.heap.size al ll l) (hcl : ll ≤ cl) (hx : (Lit.int .i64 x).wf = true) :
    Calls Try.prog 5 #[.agg #[.int .i64 c.size, .int .i64 c.pages, .slice c.ca c.cn c.cc, .slice c.ka c.kn c.kc, .int .i64 c.step, .int .i64 c.slots, .int .i64 c.gens, .int .i64 c.most], .slice al ll cl, .int .i64 x] w fun e w' => e = .returned (.bool true) ∧ Below w.heap.size w w' := by
  have hmax := hl.max
  have B0 := Boxed.new w c
  have b0 := below1 w (.cells #[.int .i64 c.size, .int .i64 c.pages, .slice c.ca c.cn c.cc, .slice c.ka c.kn c.kc, .int .i64 c.step, .int .i64 c.slots, .int .i64 c.gens, .int .i64 c.most] 24)
  have O0 := hc.on b0
  have L0 := hl.on b0
  have hx2 := wf_i64 hx
  clear hc hl hx
  go_enter Try.func5, Try.ntmps5
  go_wp2_with fail
  refine (awake17_any _).mono ?_
  rintro e w1 ⟨rfl, f1⟩
  have B1 := B0.on f1
  have O1 := Lib.hid (O0.on f1)
  have L1 := Lib.hid (L0.on f1)
  have b1 := Lib.hid (belowT b0 f1)
  clear f1 B0 O0 b0 L0
  have ⟨x0, x1, x2, x3, x4, x5, x6, x7, x8⟩ := B1
  have HM := refConfMay_any c w1 O1.out
  cases hB : confB c with
  | false =>
    rw [confMay_off hB] at HM
    have H := Lib.hid HM
    clear HM hB
    go_wp2_with fail
    refine H.out.mono ?_
    rintro e w2 ⟨rfl, f2⟩
    go_wp2
    go_ret
    exact ⟨rfl, belowT b1.out f2⟩
  | true =>
    rw [confMay_on hB] at HM
    have H := Lib.hid HM
    have M := Lib.hid (mayC hB)
    clear HM hB
    by_cases h60 : 60 < ll
    · have d60 : decide ((60 : Int) < (ll : Int)) = true := decide_eq_true (by omega)
      have d60' : decide (60 < ll) = true := decide_eq_true h60
      go_wp2_with fail
      refine H.out.mono ?_
      rintro e w2 ⟨rfl, f2⟩
      go_wp2
      go_ret
      exact ⟨rfl, belowT b1.out f2⟩
    · have d60 : decide ((60 : Int) < (ll : Int)) = false := decide_eq_false (by omega)
      have d60' : decide (60 < ll) = false := decide_eq_false h60
      have hle : ll ≤ 60 := by omega
      obtain ⟨p0, r0, p1, r1, e0, e1, hway⟩ := more_ways M.out (l := l) (by have := L1.out.len; omega) x
      go_wp2_with fail
      refine H.out.mono ?_
      rintro e w2 ⟨rfl, f2⟩
      have B2 := B1.on f2
      have O2 := Lib.hid (O1.out.on f2)
      have L2 := Lib.hid (L1.out.on f2)
      have b2 := Lib.hid (belowT b1.out f2)
      have P0 := Lib.hid (pages_tb e0 (needPages_any c al ll cl l w2 (O1.out.on f2) M.out (L1.out.on f2) (by omega)))
      clear f2 b1 O1 L1 B1 H x0 x1 x2 x3 x4 x5 x6 x7 x8
      have ⟨x0, x1, x2, x3, x4, x5, x6, x7, x8⟩ := B2
      go_wp2_with fail
      refine P0.out.mono ?_
      rintro e w3 ⟨rfl, f3⟩
      have B3 := B2.on f3
      have O3 := Lib.hid (O2.out.on f3)
      have L3 := Lib.hid (L2.out.on f3)
      have b3 := Lib.hid (belowT b2.out f3)
      clear f3 b2 O2 L2 B2 P0 x0 x1 x2 x3 x4 x5 x6 x7 x8
      have ⟨x0, x1, x2, x3, x4, x5, x6, x7, x8⟩ := B3
      have RA := Lib.hid (onto_last (k := cl) L3.out.drew hx2 (by omega))
      have RB := Lib.hid (onto_mid (k := cl) L3.out.drew hx2 (by omega))
      have RC := Lib.hid (onto_first (k := cl) L3.out.drew hx2 (by omega))
      have P1 := Lib.hid (fun v g q (hv : Below w3.heap.size w3 v) (hi : Ints v v.heap.size (some ⟨g, 0, none⟩) (ll + 1) (l ++ [x])) => pages_tb e1 (needPages_any c (some ⟨g, 0, none⟩) (ll + 1) q _ v (O3.out.on hv) M.out hi (by omega)))
      have HW := Lib.hid hway
      have HSm := Lib.hid (fun v (hv : Below w3.heap.size w3 v) => refSmall_any c v (O3.out.on hv))
      have b0 := Lib.hid (fun v (hv : Below w3.drew.heap.size w3.drew v) => show Below w3.heap.size w3 v from ⟨hv.os, hv.tape, hv.output, hv.size, hv.block⟩)
      clear e0 e1 hway
      go_wp2_with fail
      refine wp_region_held_drew (S := (fun w' => w'.cell? ⟨w.heap.size, 0, none⟩ = some (.int .i64 c.size) ∧ w'.cell? ⟨w.heap.size, 1, none⟩ = some (.int .i64 c.pages) ∧
        w'.cell? ⟨w.heap.size, 2, none⟩ = some (.slice c.ca c.cn c.cc) ∧ w'.cell? ⟨w.heap.size, 3, none⟩ = some (.slice c.ka c.kn c.kc) ∧
        w'.cell? ⟨w.heap.size, 4, none⟩ = some (.int .i64 c.step) ∧ w'.cell? ⟨w.heap.size, 5, none⟩ = some (.int .i64 c.slots) ∧
        w'.cell? ⟨w.heap.size, 6, none⟩ = some (.int .i64 c.gens) ∧ w'.cell? ⟨w.heap.size, 7, none⟩ = some (.int .i64 c.most))) (by kernel_rfl) ⟨x0, x1, x2, x3, x4, x5, x6, x7⟩ (fun hHeld => ?_)
      refine held_on (i := 0) (v := ?_) rfl (by kernel_rfl) (by kernel_rfl) (by kernel_rfl) (fun _ _ _ h => h) ?_ ?_ (by assumption) ?_
      rotate_left 1
      · rfl
      · intro w hSw; (try dsimp only at hSw); go_simp; try with_reducible rfl
      try simp only [Act.put, List.setIfInBounds_toArray, List.set_cons_zero, List.set_cons_succ, List.getElem_toArray, List.getElem_cons_zero]
      refine held_on (i := 2) (v := ?_) rfl (by kernel_rfl) (by kernel_rfl) (by kernel_rfl) (fun _ _ _ h => h) ?_ ?_ (by assumption) ?_
      rotate_left 1
      · rfl
      · intro w hSw; (try dsimp only at hSw); go_simp; try with_reducible rfl
      try simp only [Act.put, List.setIfInBounds_toArray, List.set_cons_zero, List.set_cons_succ, List.getElem_toArray, List.getElem_cons_zero, List.getElem_cons_succ]
      refine held_on (i := 4) (v := ?_) rfl (by kernel_rfl) (by kernel_rfl) (by kernel_rfl) (fun _ _ _ h => h) ?_ ?_ (by assumption) ?_
      rotate_left 1
      · rfl
      · intro w hSw; (try dsimp only at hSw); go_simp; try with_reducible rfl
      try simp only [Act.put, List.setIfInBounds_toArray, List.set_cons_zero, List.set_cons_succ, List.getElem_toArray, List.getElem_cons_zero, List.getElem_cons_succ]
      refine wpAnyH_ready (rs := [1, 5]) (by kernel_rfl) (by simp) ?_
      refine AllReadyH.cons rfl ?one (AllReadyH.cons rfl ?five AllReadyH.nil)
      case' one =>
        intro K hK
        go_simp
        refine hK.out _ _ (keep8 (below1 w3.drew (.cells #[] 3)) x8 hHeld) (fun hHeld2 => ?_)
        clear hK K
        refine wpAnyH_ready (rs := [3, 5]) (by kernel_rfl) (by simp) ?_
        refine AllReadyH.cons rfl ?oneThree (AllReadyH.cons rfl ?oneFive AllReadyH.nil)
      case' oneThree =>
        intro K hK
        obtain ⟨g1, c1, wa, g2, c2, wb, ra, rb, IT, ba, bb⟩ := RA.out
        refine step_append_run rfl (.tmp 31) (.tmp 32) rfl rfl rfl rfl ra ?_
        refine hK.out _ _ (keep8 ba x8 hHeld) (fun hHeld3 => ?_)
        clear hK K
        refine wpAnyH_ready (rs := [5]) (by kernel_rfl) (by simp) ?_
        refine AllReadyH.cons rfl (fun K hK => ?_) AllReadyH.nil
        go_simp
        refine hK.out _ _ (keep8 (ba.alloc ba.size _) x8 hHeld) (fun hHeld4 => ?_)
        clear hK K
        refine wpAnyH_ready (rs := [6]) (by kernel_rfl) (by simp) ?_
        refine AllReadyH.cons rfl (fun K hK => ?_) AllReadyH.nil
        refine step_append_run rfl (.tmp 33) (.tmp 35) rfl rfl rfl rfl rb ?_
        refine hK.out _ _ (keep8 bb x8 hHeld) (fun hHeld5 => ?_)
        clear hK K
      case' oneFive =>
        intro K hK
        go_simp
        refine hK.out _ _ (keep8 (below2 w3.drew (.cells #[] 3) (.cells #[.int .i64 x] 3)) x8 hHeld) (fun hHeld3 => ?_)
        clear hK K
        refine wpAnyH_ready (rs := [3]) (by kernel_rfl) (by simp) ?_
        refine AllReadyH.cons rfl (fun K hK => ?_) AllReadyH.nil
        obtain ⟨g1, c1, wa, g2, c2, wb, ra, rb, IT, ba, bb⟩ := RB.out
        refine step_append_run rfl (.tmp 31) (.tmp 32) rfl rfl rfl rfl ra ?_
        refine hK.out _ _ (keep8 ba x8 hHeld) (fun hHeld4 => ?_)
        clear hK K
        refine wpAnyH_ready (rs := [6]) (by kernel_rfl) (by simp) ?_
        refine AllReadyH.cons rfl (fun K hK => ?_) AllReadyH.nil
        refine step_append_run rfl (.tmp 33) (.tmp 35) rfl rfl rfl rfl rb ?_
        refine hK.out _ _ (keep8 bb x8 hHeld) (fun hHeld5 => ?_)
        clear hK K
      case' five =>
        intro K hK
        go_simp
        refine hK.out _ _ (keep8 (below1 w3.drew (.cells #[.int .i64 x] 3)) x8 hHeld) (fun hHeld2 => ?_)
        clear hK K
        refine wpAnyH_ready (rs := [1]) (by kernel_rfl) (by simp) ?_
        refine AllReadyH.cons rfl (fun K hK => ?_) AllReadyH.nil
        go_simp
        refine hK.out _ _ (keep8 (below2 w3.drew (.cells #[.int .i64 x] 3) (.cells #[] 3)) x8 hHeld) (fun hHeld3 => ?_)
        clear hK K
        refine wpAnyH_ready (rs := [3]) (by kernel_rfl) (by simp) ?_
        refine AllReadyH.cons rfl (fun K hK => ?_) AllReadyH.nil
        obtain ⟨g1, c1, wa, g2, c2, wb, ra, rb, IT, ba, bb⟩ := RC.out
        refine step_append_run rfl (.tmp 31) (.tmp 32) rfl rfl rfl rfl ra ?_
        refine hK.out _ _ (keep8 ba x8 hHeld) (fun hHeld4 => ?_)
        clear hK K
        refine wpAnyH_ready (rs := [6]) (by kernel_rfl) (by simp) ?_
        refine AllReadyH.cons rfl (fun K hK => ?_) AllReadyH.nil
        refine step_append_run rfl (.tmp 33) (.tmp 35) rfl rfl rfl rfl rb ?_
        refine hK.out _ _ (keep8 bb x8 hHeld) (fun hHeld5 => ?_)
        clear hK K
      all_goals
        clear ra rb hHeld hHeld2 hHeld3 hHeld4 RA RB RC ba
        have hlt : w.heap.size < wb.heap.size := Nat.lt_of_lt_of_le x8 bb.size
        refine wpAnyH_ready (rs := [7]) (by kernel_rfl) (by simp) ?_
        refine AllReadyH.cons rfl (fun K hK => ?_) AllReadyH.nil
        go_simp
        refine (P1.out _ g2 c2 (b0.out _ bb) IT).mono ?_
        rintro e w6 ⟨rfl, f6⟩
        refine hK.out _ _ (keep8 f6 hlt hHeld5) (fun hHeld6 => ?_)
        clear hK K
        refine held_on (i := 8) (v := ?_) rfl (by kernel_rfl) (by kernel_rfl) (by kernel_rfl) (fun _ _ _ h => h) ?_ ?_ (by assumption) ?_
        rotate_left 1
        · rfl
        · intro w hSw; (try dsimp only at hSw); go_simp; try with_reducible rfl
        try simp only [Act.put, List.setIfInBounds_toArray, List.set_cons_zero, List.set_cons_succ, List.getElem_toArray, List.getElem_cons_zero, List.getElem_cons_succ]
        refine held_on (i := 9) (v := ?_) rfl (by kernel_rfl) (by kernel_rfl) (by kernel_rfl) (fun _ _ _ h => h) ?_ ?_ (by assumption) ?_
        rotate_left 1
        · rfl
        · intro w hSw; (try dsimp only at hSw); go_simp; try with_reducible rfl
        try simp only [Act.put, List.setIfInBounds_toArray, List.set_cons_zero, List.set_cons_succ, List.getElem_toArray, List.getElem_cons_zero, List.getElem_cons_succ]
        refine held_on (i := 10) (v := ?_) rfl (by kernel_rfl) (by kernel_rfl) (by kernel_rfl) (fun _ _ _ h => h) ?_ ?_ (by assumption) ?_
        rotate_left 1
        · rfl
        · intro w hSw; (try dsimp only at hSw); go_simp; try with_reducible rfl
        try simp only [Act.put, List.setIfInBounds_toArray, List.set_cons_zero, List.set_cons_succ, List.getElem_toArray, List.getElem_cons_zero, List.getElem_cons_succ]
        refine held_on (i := 11) (v := ?_) rfl (by kernel_rfl) (by kernel_rfl) (by kernel_rfl) (fun _ _ _ h => h) ?_ ?_ (by assumption) ?_
        rotate_left 1
        · rfl
        · intro w hSw; (try dsimp only at hSw); go_simp; try with_reducible rfl
        try simp only [Act.put, List.setIfInBounds_toArray, List.set_cons_zero, List.set_cons_succ, List.getElem_toArray, List.getElem_cons_zero, List.getElem_cons_succ]
        refine held_on (i := 12) (v := ?_) rfl (by kernel_rfl) (by kernel_rfl) (by kernel_rfl) (fun _ _ _ h => h) ?_ ?_ (by assumption) ?_
        rotate_left 1
        · rfl
        · intro w hSw; (try dsimp only at hSw); go_simp; try with_reducible rfl
        try simp only [Act.put, List.setIfInBounds_toArray, List.set_cons_zero, List.set_cons_succ, List.getElem_toArray, List.getElem_cons_zero, List.getElem_cons_succ]
        refine wpAnyH_done (by kernel_rfl) ?_ _
        have b6 := Lib.hid ((b0.out _ bb).trans (f6.mono (b0.out _ bb).size))
        have B6 := B3.on b6.out
        clear bb f6 hHeld5 hHeld6 P1 IT b0 x0 x1 x2 x3 x4 x5 x6 x7 x8 hlt
        have ⟨x0, x1, x2, x3, x4, x5, x6, x7, x8⟩ := B6
        have BF := Lib.hid (b3.out.trans (b6.out.mono b3.out.size))
        rcases HW.out with ⟨rfl, rfl⟩ | ⟨rfl, rfl, hT⟩ | ⟨rfl, rfl, hs, rfl, z1, z2, z3, z4⟩ | ⟨rfl, rfl, hs, z1, z2, z3, z4⟩
        · go_wp2
          go_ret
          exact ⟨rfl, BF.out⟩
        · have HI := Lib.hid (fun v => refIs_any c x v)
          rw [hT] at HI
          clear hT
          go_wp2_with fail
          refine (HI.out _).mono ?_
          rintro e w7 ⟨rfl, f7⟩
          go_wp2
          go_ret
          exact ⟨rfl, belowT BF.out f7⟩
        · have d1 : decide (small c < x) = true := decide_eq_true hs
          have HR := Lib.hid (fun v => refAll_any x c.size v hx2.2)
          generalize allOf x c.size = q at *
          go_wp2_with fail
          refine (HSm.out _ b6.out).mono ?_
          rintro e w7 ⟨rfl, f7⟩
          have B7 := B6.on f7
          have b7 := Lib.hid (belowT BF.out f7)
          clear x0 x1 x2 x3 x4 x5 x6 x7 f7
          have ⟨x0, x1, x2, x3, x4, x5, x6, x7, x9⟩ := B7
          go_wp2_with fail
          refine (HR.out _).mono ?_
          rintro e w8 ⟨rfl, rfl⟩
          go_wp2
          go_ret
          exact ⟨rfl, b7.out⟩
        · have d1 : decide (small c < x) = false := decide_eq_false (by omega)
          have q1 : decide (p0 ≤ p1) = true := decide_eq_true z1
          have q2 : decide (p1 ≤ p0 + 1) = true := decide_eq_true z2
          go_wp2_with fail
          refine (HSm.out _ b6.out).mono ?_
          rintro e w7 ⟨rfl, f7⟩
          go_wp2
          go_ret
          exact ⟨rfl, belowT BF.out f7⟩

/-! ### The frame of the row -/
set_option maxRecDepth 100000 in
theorem lifted (os : Os) (started : os.Started) (H : Type) (enc : TypeId × Value → H) :
    ReturnsInHanded {} Try.checked os 5 .any (Rows.needMoreSpec.pre6 enc Try.prog Try.f5 Rows.needMoreRow.domain false) (Rows.needMoreSpec.post enc Try.prog Try.f5 false true false false) := by
  refine returnsInHanded_of_change (C := Try.checked) own started (by kernel_rfl) Try.func5
    (ChangeSpec.witness6 (enc := enc) (C := Try.checked) false ⟨#[], #[.agg #[.int .i64 0, .int .i64 0, .slice none 0 0, .slice none 0 0, .int .i64 0, .int .i64 0, .int .i64 0, .int .i64 0], .slice none 0 0, .int .i64 0], []⟩ 8 (by kernel_rfl) (by kernel_rfl) (by kernel_rfl) (by kernel_rfl)) ?_
  intro W base args ds gs before hval0 hW hcnd _
  have hval : ∀ (j : Nat) t v, Try.f5.params[j]? = some t → args[j]? = some v → Value.okWide Try.prog W .any base t v := hval0
  have hW' := hW
  obtain ⟨p, q, hA0, hV, rfl, hfz, hnd⟩ := hW
  have hA : DataW.TrodAll enc Try.prog W 0 (fun _ => true) true Try.f5.params.toList args.toList ds p := hA0
  rw [Try.params5] at hA hval
  obtain ⟨v0, vs0, d0, ds0, p0, q0, hargs, rfl, rfl, h0, r0⟩ := trodAll_cons hA
  obtain ⟨v1, vs1, d1, ds1, p1, q1, rfl, rfl, rfl, h1, r1⟩ := trodAll_cons r0
  obtain ⟨v2, vs2, d2, ds2, p2, q2, rfl, rfl, rfl, h2, r2⟩ := trodAll_cons r1
  obtain ⟨rfl, rfl, rfl⟩ := trodAll_nil r2
  obtain rfl : args = #[v0, v1, v2] := by cases args; simp_all
  obtain ⟨rfl, rfl⟩ := trodVars_none hV
  have k0 := h0
  have lt0 : ∀ x ∈ p0, x.block < W.heap.size := by obtain ⟨m, hm⟩ := k0; exact DataW.trod_lt m _ _ _ hm
  obtain ⟨c, rfl, hc, hcc, hkc⟩ := open_conf (hval 0 24 v0 rfl rfl) h0
  have k1 := h1
  have lt1 : ∀ x ∈ p1, x.block < W.heap.size := by obtain ⟨m, hm⟩ := k1; exact DataW.trod_lt m _ _ _ hm
  obtain ⟨al, ll, cl, rfl⟩ := okWide_slice Try.underlying22 (hval 1 22 v1 rfl rfl)
  obtain ⟨l, hcl, hl⟩ : ∃ xs, ll ≤ cl ∧ Ints W W.heap.size al ll xs := by
    obtain ⟨fuel, hf⟩ := h1
    obtain ⟨a, l, c, xs, e, hl, hi⟩ := ints_field (by simpa [Value.cells] using hf)
    injection e with e1 e2 e3
    subst e1 e2 e3
    exact ⟨xs, hl, hi⟩
  obtain ⟨x, rfl, rfl, rfl, hx⟩ := open_int Try.underlying3 (hval 2 3 v2 rfl rfl) h2
  clear hA0 hval0
  refine (walk c al ll cl l x W hc hcc hkc hl hcl hx).mono fun e W' ⟨he, bel⟩ => ?_
  subst he
  exact ⟨_, rfl, _, _, _, [], _, [], hW', trodAll_mk1 (shut_bool Try.underlying4 _), (trodAll_cons_mk (Below.trod laidOut (by kernel_rfl) (of_decide_eq_true (by kernel_rfl)) k0 bel lt0) (trodAll_cons_mk (Below.trod laidOut (by kernel_rfl) (of_decide_eq_true (by kernel_rfl)) k1 bel lt1) (trodAll_cons_mk (shut_int Try.underlying3 hx) trodAll_mk0))), rfl, bel.frame _, fun h => by cases h⟩

theorem over : Rows.needMoreRow.holds Try.pinned (OpenSpec.ofChange Rows.needMoreSpec) :=
  OpenClaim.holds_of_wide 5 Try.f5 rfl rfl rfl rfl rfl rfl rfl ⟨rfl, rfl, rfl, rfl, rfl⟩ rfl rfl rfl rfl rfl (by kernel_rfl) Try.func5 (by kernel_rfl)
    (of_decide_eq_true (by kernel_rfl)) (by unfold Func.isWrapper; first | (rw [if_pos (by decide +kernel)]; kernel_rfl) | (rw [if_neg (by decide +kernel)]; exact ⟨rfl, rfl⟩))
    (fun os started H enc _ => lifted os started H enc)

theorem proved : Rows.NeedMoreSaid := over
#print axioms proved
end Go.Proofs.Ytkcdehnpkephgaa.needMore
