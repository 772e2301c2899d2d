/-
  almerylaw17.NeedTurn returns true for every layout, every slice of ints and every byte, and all memory that was there is as it was. No condition.
-/
import Derived.Test.YtkcdehnpkephgaaRows
import Derived.WalkKit
import Derived.ProofKit
import Derived.OpenShut
import Derived.Test.YtkcdehnpkephgaaNeedAwake
import Derived.Test.YtkcdehnpkephgaaConfRefMay
import Derived.Test.YtkcdehnpkephgaaConfOpen
import Derived.Test.YtkcdehnpkephgaaIntsCut
import Derived.Test.YtkcdehnpkephgaaHeldOff
import Derived.Test.YtkcdehnpkephgaaWf
import Derived.ShutString
import Derived.ChangeOld
import Derived.Below
namespace Go.Proofs.Ytkcdehnpkephgaa.needTurn
open Go.ChangeShapes Go.WideShapes Go.ChangeAt Go.RowKit
open Go.ChangeMaps (open_string shut_string)
set_option linter.unusedVariables false

theorem own : ownKnob Try.prog.godebug = none := by kernel_rfl
theorem laidOut : laidOutB Try.prog = true := by kernel_rfl

/-- Pages of a list, of the list turned, and of both its parts. -/
theorem turn_ways {c : Cf} (h : MayC c) {l : List Int} (hl : l.length ≤ 1000) (k : Nat) :
    ∃ p0 r0 p1 r1 p2 r2 p3 r3 : Int, pagesOut c l = (p0, r0) ∧ pagesOut c (l.drop k ++ l.take k) = (p1, r1) ∧ pagesOut c (l.take k) = (p2, r2) ∧ pagesOut c (l.drop k) = (p3, r3) ∧
      ((r0 = 0 ∧ r1 = 0 ∧ r2 = 0 ∧ r3 = 0 ∧ p1 = p0 ∧ p0 ≤ p2 + p3 ∧ p2 ≤ p0 ∧ p3 ≤ p0 ∧ 0 ≤ p2 ∧ 0 ≤ p3 ∧ p0 ≤ 5000000000000) ∨ (r0 = 3 ∧ r1 = 3 ∧ (r2 = 3 ∨ (r2 = 0 ∧ r3 = 3)))) := by
  have e : l.take k ++ l.drop k = l := List.take_append_drop k l
  have ha : l.all (isT c) = ((l.take k).all (isT c) && (l.drop k).all (isT c)) := by rw [← all_app, e]
  have hb : (l.drop k ++ l.take k).all (isT c) = ((l.drop k).all (isT c) && (l.take k).all (isT c)) := all_app
  have off : ∀ r : List Int, r.all (isT c) = false → pagesOut c r = (0, 3) := fun r hr => if_neg (by rw [hr]; simp)
  cases h1 : (l.take k).all (isT c) with
  | false =>
    rw [h1, Bool.false_and] at ha
    rw [h1, Bool.and_false] at hb
    exact ⟨_, _, _, _, _, _, _, _, off _ ha, off _ hb, off _ h1, rfl, .inr ⟨rfl, rfl, .inl rfl⟩⟩
  | true =>
    cases h2 : (l.drop k).all (isT c) with
    | false =>
      rw [h2, Bool.and_false] at ha
      rw [h2, Bool.false_and] at hb
      exact ⟨_, _, _, _, _, _, _, _, off _ ha, off _ hb, pages_on h1, off _ h2, .inr ⟨rfl, rfl, .inr ⟨rfl, rfl⟩⟩⟩
    | true =>
      rw [h1, h2] at ha
      rw [h1, h2] at hb
      have q1 := pagesN_parts h h1 h2
      have q2 := pagesN_in h (l := l) (by omega) ha
      have q3 := pagesN_in h (l := l.take k) (by rw [List.length_take]; omega) h1
      have q4 := pagesN_in h (l := l.drop k) (by rw [List.length_drop]; omega) h2
      have q5 : pagesN c (l.drop k ++ l.take k) = pagesN c l := by rw [pagesN_comm, e]
      rw [e] at q1
      exact ⟨_, _, _, _, _, _, _, _, pages_on ha, pages_on hb, pages_on h1, pages_on h2, .inl ⟨rfl, rfl, rfl, rfl, q5, q1.1, q1.2.1, q1.2.2, q3.1, q4.1, q2.2⟩⟩

theorem pages_tb {c : Cf} {l : List Int} {p r : Int} {w : World} {args : Array Value} (e : pagesOut c l = (p, r)) (h : Calls Try.prog 10 args w (PagesEnd c l w)) : Calls Try.prog 10 args w (TB p r w) := by
  unfold PagesEnd at h
  rw [e] at h
  exact h

/-! ### The walk -/
set_option maxRecDepth 20000 in
set_option maxHeartbeats 2000000 in
theorem walk (c : Cf) (al : Option Addr) (ll cl : Nat) (l : List Int) (t : Int) (w : World) (hc : c.Ok w w.heap.size) (hcc : c.cn ≤ c.cc) (hkc : c.kn ≤ c.kc) (hl : Ints w w.heap.size al ll l) (hcl : ll ≤ cl) (ht : (Lit.int .u8 t).wf = true) :
    Calls Try.prog 6 #[.agg #[.int .i64 c.size, .int .i64 c.pages, .slice c.ca c.cn c.cc, .slice c.ka c.kn c.kc, .int .i64 c.step, .int .i64 c.slots, .int .i64 c.gens, .int .i64 c.most], .slice al ll cl, .int .u8 t] w fun e w' => e = .returned (.bool true) ∧ Below w.heap.size w w' := by
  have hmax := hl.max
  have B0 := Boxed.new w c
  have b0 := below1 w (.cells #[.int .i64 c.size, .int .i64 c.pages, .slice c.ca c.cn c.cc, .slice c.ka c.kn c.kc, .int .i64 c.step, .int .i64 c.slots, .int .i64 c.gens, .int .i64 c.most] 24)
  have O0 := hc.on b0
  have L0 := hl.on b0
  have ht2 := wfu8 ht
  clear hc hl ht
  go_enter Try.func6, Try.ntmps6
  go_wp2_with fail
  refine (awake17_any _).mono ?_
  rintro e w1 ⟨rfl, f1⟩
  have B1 := B0.on f1
  have O1 := Lib.hid (O0.on f1)
  have L1 := Lib.hid (L0.on f1)
  have b1 := Lib.hid (belowT b0 f1)
  clear f1 B0 O0 b0 L0
  have ⟨x0, x1, x2, x3, x4, x5, x6, x7, x8⟩ := B1
  have HM := refConfMay_any c w1 O1.out
  cases hB : confB c with
  | false =>
    rw [confMay_off hB] at HM
    have H := Lib.hid HM
    clear HM hB
    go_wp2_with fail
    refine H.out.mono ?_
    rintro e w2 ⟨rfl, f2⟩
    go_wp2
    go_ret
    exact ⟨rfl, belowT b1.out f2⟩
  | true =>
    rw [confMay_on hB] at HM
    have H := Lib.hid HM
    have M := Lib.hid (mayC hB)
    clear HM hB
    by_cases h60 : 60 < ll
    · have d60 : decide ((60 : Int) < (ll : Int)) = true := decide_eq_true (by omega)
      have d60' : decide (60 < ll) = true := decide_eq_true h60
      go_wp2_with fail
      refine H.out.mono ?_
      rintro e w2 ⟨rfl, f2⟩
      go_wp2
      go_ret
      exact ⟨rfl, belowT b1.out f2⟩
    · have d60 : decide ((60 : Int) < (ll : Int)) = false := decide_eq_false (by omega)
      have d60' : decide (60 < ll) = false := decide_eq_false h60
      have hle : ll ≤ 60 := by omega
      obtain ⟨k, hk⟩ := Int.eq_ofNat_of_zero_le (Int.emod_nonneg t (show (ll : Int) + 1 ≠ 0 by omega))
      have hkl : k ≤ ll := by have := Int.emod_lt_of_pos t (show 0 < (ll : Int) + 1 by omega); omega
      have hk' : t.tmod ((ll : Int) + 1) = (k : Int) := by rw [Int.tmod_eq_emod_of_nonneg ht2.1]; exact hk
      have hnz : ¬ (ll : Int) + 1 = 0 := by omega
      have hwk : IntKind.i64.wrap ((ll : Int) + 1) = (ll : Int) + 1 := IntWalk.i64_in _ (by omega)
      have hwk2 : IntKind.i64.wrap (k : Int) = (k : Int) := IntWalk.i64_in _ (by omega)
      obtain ⟨p0, r0, p1, r1, p2, r2, p3, r3, e0, e1, e2, e3, hway⟩ := turn_ways M.out (l := l) (by have := L1.out.len; omega) k
      go_wp2_with fail
      refine H.out.mono ?_
      rintro e w2 ⟨rfl, f2⟩
      have B2 := B1.on f2
      have O2 := Lib.hid (O1.out.on f2)
      have L2 := Lib.hid (L1.out.on f2)
      have b2 := Lib.hid (belowT b1.out f2)
      clear f2 b1 O1 L1 B1 H x0 x1 x2 x3 x4 x5 x6 x7 x8
      obtain ⟨aL, kL, hkL, runL, IL⟩ := cut_lo_any L2.out.drew hkl hcl
      obtain ⟨aH, kH, hkH, runH, IH⟩ := cut_hi_any L2.out.drew hkl hcl
      obtain ⟨g1, q1, wa, g2, q2, wb, ra, rb, IT, bT⟩ := app_two (w := w2.drew) (k1 := kL) (k2 := kH) IL IH (by omega)
      have en : ll - k + k = ll := by omega
      rw [en] at rb IT
      have RA := Lib.hid ra
      have RB := Lib.hid rb
      have T3 := Lib.hid IT
      have b3 := Lib.hid (belowT (belowD b2.out) bT)
      have bT' : Below w2.heap.size w2 wb := ⟨bT.os, bT.tape, bT.output, bT.size, bT.block⟩
      have B3 := B2.on bT'
      have O3 := Lib.hid (O2.out.on bT')
      have L3 := Lib.hid (L2.out.on bT')
      have IL3 := Lib.hid (IL.on bT)
      have IH3 := Lib.hid (IH.on bT)
      have hlo : (k : Int) ≤ (ll : Int) := by omega
      clear ra rb IT bT bT' B2 O2 L2 b2 IL IH en
      go_wp2_with fail
      refine wp_region_held_drew (S := fun _ => True) (by kernel_rfl) trivial (fun hHeld => ?_)
      refine held_on (i := 1) (v := ?_) rfl (by kernel_rfl) (by kernel_rfl) (by kernel_rfl) (fun _ _ _ h => h) ?_ ?_ (by assumption) ?_
      rotate_left 1
      · rfl
      · intro w hSw; (try dsimp only at hSw); go_simp; try with_reducible rfl
      try simp only [Act.put, List.setIfInBounds_toArray, List.set_cons_zero, List.set_cons_succ, List.getElem_toArray, List.getElem_cons_zero, List.getElem_cons_succ]
      refine held_on (i := 2) (v := ?_) rfl (by kernel_rfl) (by kernel_rfl) (by kernel_rfl) (fun _ _ _ h => h) ?_ ?_ (by assumption) ?_
      rotate_left 1
      · rfl
      · intro w hSw; (try dsimp only at hSw); go_simp; try with_reducible rfl
      try simp only [Act.put, List.setIfInBounds_toArray, List.set_cons_zero, List.set_cons_succ, List.getElem_toArray, List.getElem_cons_zero, List.getElem_cons_succ]
      refine held_on (i := 3) (v := ?_) rfl (by kernel_rfl) (by kernel_rfl) (by kernel_rfl) (fun _ _ _ h => h) ?_ ?_ (by assumption) ?_
      rotate_left 1
      · rfl
      · intro w hSw; (try dsimp only at hSw); go_simp; try with_reducible rfl
      try simp only [Act.put, List.setIfInBounds_toArray, List.set_cons_zero, List.set_cons_succ, List.getElem_toArray, List.getElem_cons_zero, List.getElem_cons_succ]
      refine held_on (i := 5) (v := ?_) rfl (by kernel_rfl) (by kernel_rfl) (by kernel_rfl) (fun _ _ _ h => h) ?_ ?_ (by assumption) ?_
      rotate_left 1
      · rfl
      · intro w hSw; (try dsimp only at hSw); go_simp; try with_reducible rfl
      try simp only [Act.put, List.setIfInBounds_toArray, List.set_cons_zero, List.set_cons_succ, List.getElem_toArray, List.getElem_cons_zero, List.getElem_cons_succ]
      refine held_on (i := 6) (v := ?_) rfl (by kernel_rfl) (by kernel_rfl) (by kernel_rfl) (fun _ _ _ h => h) ?_ ?_ (by assumption) ?_
      rotate_left 1
      · rfl
      · intro w hSw; (try dsimp only at hSw); go_simp; try with_reducible rfl
      try simp only [Act.put, List.setIfInBounds_toArray, List.set_cons_zero, List.set_cons_succ, List.getElem_toArray, List.getElem_cons_zero, List.getElem_cons_succ]
      refine held_on (i := 7) (v := ?_) rfl (by kernel_rfl) (by kernel_rfl) (by kernel_rfl) (fun _ _ _ h => h) ?_ ?_ (by assumption) ?_
      rotate_left 1
      · rfl
      · intro w hSw; (try dsimp only at hSw); go_simp; try with_reducible rfl
      try simp only [Act.put, List.setIfInBounds_toArray, List.set_cons_zero, List.set_cons_succ, List.getElem_toArray, List.getElem_cons_zero, List.getElem_cons_succ]
      refine wpAnyH_ready (rs := [0]) (by kernel_rfl) (by simp) ?_
      refine AllReadyH.cons rfl (fun K hK => ?_) AllReadyH.nil
      go_simp
      refine hK.out _ _ trivial (fun hHeld2 => ?_)
      clear hK K
      refine wpAnyH_ready (rs := [4]) (by kernel_rfl) (by simp) ?_
      refine AllReadyH.cons rfl (fun K hK => ?_) AllReadyH.nil
      refine step_append_run rfl (.tmp 34) (.tmp 37) rfl rfl rfl rfl RA.out ?_
      refine hK.out _ _ trivial (fun hHeld3 => ?_)
      clear hK K
      refine wpAnyH_ready (rs := [8]) (by kernel_rfl) (by simp) ?_
      refine AllReadyH.cons rfl (fun K hK => ?_) AllReadyH.nil
      refine step_append_run rfl (.tmp 38) (.tmp 41) rfl rfl rfl rfl RB.out ?_
      refine hK.out _ _ trivial (fun hHeld4 => ?_)
      clear hK K
      refine held_on (i := 9) (v := ?_) rfl (by kernel_rfl) (by kernel_rfl) (by kernel_rfl) (fun _ _ _ h => h) ?_ ?_ (by assumption) ?_
      rotate_left 1
      · rfl
      · intro w hSw; (try dsimp only at hSw); go_simp; try with_reducible rfl
      try simp only [Act.put, List.setIfInBounds_toArray, List.set_cons_zero, List.set_cons_succ, List.getElem_toArray, List.getElem_cons_zero, List.getElem_cons_succ]
      refine wpAnyH_done (by kernel_rfl) ?_ _
      clear RA RB hHeld hHeld2 hHeld3 hHeld4
      have P0 := Lib.hid (pages_tb e0 (needPages_any c al ll cl l wb O3.out M.out L3.out (by omega)))
      have P1 := Lib.hid (fun v (hv : Below wb.heap.size wb v) => pages_tb e1 (needPages_any c (some ⟨g2, 0, none⟩) ll q2 _ v (O3.out.on hv) M.out (T3.out.on hv) (by omega)))
      have P2 := Lib.hid (fun v (hv : Below wb.heap.size wb v) => pages_tb e2 (needPages_any c aH k kH _ v (O3.out.on hv) M.out (IH3.out.on hv) (by omega)))
      have P3 := Lib.hid (fun v (hv : Below wb.heap.size wb v) => pages_tb e3 (needPages_any c aL (ll - k) kL _ v (O3.out.on hv) M.out (IL3.out.on hv) (by omega)))
      have HW := Lib.hid hway
      clear e0 e1 e2 e3 O3 L3 IL3 IH3 T3 hway
      have ⟨x0, x1, x2, x3, x4, x5, x6, x7, x8⟩ := B3
      go_wp2_with fail
      refine P0.out.mono ?_
      rintro e w4 ⟨rfl, f4⟩
      have B4 := B3.on f4
      have hb4 := Lib.hid f4
      clear x0 x1 x2 x3 x4 x5 x6 x7 f4 P0
      have ⟨x0, x1, x2, x3, x4, x5, x6, x7, x8⟩ := B4
      go_wp2_with fail
      refine (P1.out _ hb4.out).mono ?_
      rintro e w5 ⟨rfl, f5⟩
      have B5 := B4.on f5
      have hb5 := Lib.hid (hb4.out.trans (f5.mono hb4.out.size))
      clear x0 x1 x2 x3 x4 x5 x6 x7 f5 P1 hb4 B4
      have ⟨x0, x1, x2, x3, x4, x5, x6, x7, x8⟩ := B5
      go_wp2_with fail
      go_region_held3 (fun w' => w'.cell? ⟨w.heap.size, 0, none⟩ = some (.int .i64 c.size) ∧ w'.cell? ⟨w.heap.size, 1, none⟩ = some (.int .i64 c.pages) ∧
        w'.cell? ⟨w.heap.size, 2, none⟩ = some (.slice c.ca c.cn c.cc) ∧ w'.cell? ⟨w.heap.size, 3, none⟩ = some (.slice c.ka c.kn c.kc) ∧
        w'.cell? ⟨w.heap.size, 4, none⟩ = some (.int .i64 c.step) ∧ w'.cell? ⟨w.heap.size, 5, none⟩ = some (.int .i64 c.slots) ∧
        w'.cell? ⟨w.heap.size, 6, none⟩ = some (.int .i64 c.gens) ∧ w'.cell? ⟨w.heap.size, 7, none⟩ = some (.int .i64 c.most))
        (first | exact ⟨x0, x1, x2, x3, x4, x5, x6, x7⟩ | exact keep8 f6 x8 (by assumption) | assumption | go_keep)
        (first
          | (go_at_call 10; refine (P2.out _ (belowD hb5.out)).mono ?_; rintro e w6 ⟨rfl, f6⟩))
      have f6' : Below w5.heap.size w5 w6 := ⟨f6.os, f6.tape, f6.output, f6.size, f6.block⟩
      have B6 := B5.on f6'
      have hb6 := Lib.hid (hb5.out.trans (f6'.mono hb5.out.size))
      clear x0 x1 x2 x3 x4 x5 x6 x7 f6 f6' P2 hb5 B5
      have ⟨x0, x1, x2, x3, x4, x5, x6, x7, x8⟩ := B6
      go_wp2_with fail
      go_region_held3 (fun w' => w'.cell? ⟨w.heap.size, 0, none⟩ = some (.int .i64 c.size) ∧ w'.cell? ⟨w.heap.size, 1, none⟩ = some (.int .i64 c.pages) ∧
        w'.cell? ⟨w.heap.size, 2, none⟩ = some (.slice c.ca c.cn c.cc) ∧ w'.cell? ⟨w.heap.size, 3, none⟩ = some (.slice c.ka c.kn c.kc) ∧
        w'.cell? ⟨w.heap.size, 4, none⟩ = some (.int .i64 c.step) ∧ w'.cell? ⟨w.heap.size, 5, none⟩ = some (.int .i64 c.slots) ∧
        w'.cell? ⟨w.heap.size, 6, none⟩ = some (.int .i64 c.gens) ∧ w'.cell? ⟨w.heap.size, 7, none⟩ = some (.int .i64 c.most))
        (first | exact ⟨x0, x1, x2, x3, x4, x5, x6, x7⟩ | exact keep8 f7 x8 (by assumption) | assumption | go_keep)
        (first
          | (go_at_call 10; refine (P3.out _ (belowD hb6.out)).mono ?_; rintro e w7 ⟨rfl, f7⟩))
      have hb7 := Lib.hid (b3.out.trans ((hb6.out.trans (Below.mono (show Below w6.heap.size w6 w7 from ⟨f7.os, f7.tape, f7.output, f7.size, f7.block⟩) hb6.out.size)).mono b3.out.size))
      clear x0 x1 x2 x3 x4 x5 x6 x7 f7 P3 hb6 B6
      rcases HW.out with ⟨rfl, rfl, rfl, rfl, z1, z2, z3, z4, z5, z6, z7⟩ | ⟨rfl, rfl, hz⟩
      · subst z1
        have q1 : decide (p1 ≤ p2 + p3) = true := decide_eq_true z2
        have q2' : decide (p2 ≤ p1) = true := decide_eq_true z3
        have q3' : decide (p3 ≤ p1) = true := decide_eq_true z4
        go_wp2
        go_ret
        exact ⟨rfl, hb7.out⟩
      · rcases hz with rfl | ⟨rfl, rfl⟩
        · go_wp2
          go_ret
          exact ⟨rfl, hb7.out⟩
        · go_wp2
          go_ret
          exact ⟨rfl, hb7.out⟩

/-! ### The frame of the row -/
set_option maxRecDepth 100000 in
theorem lifted (os : Os) (started : os.Started) (H : Type) (enc : TypeId × Value → H) :
    ReturnsInHanded {} Try.checked os 6 .any (Rows.needTurnSpec.pre6 enc Try.prog Try.f6 Rows.needTurnRow.domain false) (Rows.needTurnSpec.post enc Try.prog Try.f6 false true false false) := by
  refine returnsInHanded_of_change (C := Try.checked) own started (by kernel_rfl) Try.func6
    (ChangeSpec.witness6 (enc := enc) (C := Try.checked) false ⟨#[], #[.agg #[.int .i64 0, .int .i64 0, .slice none 0 0, .slice none 0 0, .int .i64 0, .int .i64 0, .int .i64 0, .int .i64 0], .slice none 0 0, .int .u8 0], []⟩ 8 (by kernel_rfl) (by kernel_rfl) (by kernel_rfl) (by kernel_rfl)) ?_
  intro W base args ds gs before hval0 hW hcnd _
  have hval : ∀ (j : Nat) t v, Try.f6.params[j]? = some t → args[j]? = some v → Value.okWide Try.prog W .any base t v := hval0
  have hW' := hW
  obtain ⟨p, q, hA0, hV, rfl, hfz, hnd⟩ := hW
  have hA : DataW.TrodAll enc Try.prog W 0 (fun _ => true) true Try.f6.params.toList args.toList ds p := hA0
  rw [Try.params6] at hA hval
  obtain ⟨v0, vs0, d0, ds0, p0, q0, hargs, rfl, rfl, h0, r0⟩ := trodAll_cons hA
  obtain ⟨v1, vs1, d1, ds1, p1, q1, rfl, rfl, rfl, h1, r1⟩ := trodAll_cons r0
  obtain ⟨v2, vs2, d2, ds2, p2, q2, rfl, rfl, rfl, h2, r2⟩ := trodAll_cons r1
  obtain ⟨rfl, rfl, rfl⟩ := trodAll_nil r2
  obtain rfl : args = #[v0, v1, v2] := by cases args; simp_all
  obtain ⟨rfl, rfl⟩ := trodVars_none hV
  have k0 := h0
  have lt0 : ∀ x ∈ p0, x.block < W.heap.size := by obtain ⟨m, hm⟩ := k0; exact DataW.trod_lt m _ _ _ hm
  obtain ⟨c, rfl, hc, hcc, hkc⟩ := open_conf (hval 0 24 v0 rfl rfl) h0
  have k1 := h1
  have lt1 : ∀ x ∈ p1, x.block < W.heap.size := by obtain ⟨m, hm⟩ := k1; exact DataW.trod_lt m _ _ _ hm
  obtain ⟨al, ll, cl, rfl⟩ := okWide_slice Try.underlying22 (hval 1 22 v1 rfl rfl)
  obtain ⟨l, hcl, hl⟩ : ∃ xs, ll ≤ cl ∧ Ints W W.heap.size al ll xs := by
    obtain ⟨fuel, hf⟩ := h1
    obtain ⟨a, l, c, xs, e, hl, hi⟩ := ints_field (by simpa [Value.cells] using hf)
    injection e with e1 e2 e3
    subst e1 e2 e3
    exact ⟨xs, hl, hi⟩
  obtain ⟨t, rfl, rfl, rfl, ht⟩ := open_int Try.underlying5 (hval 2 5 v2 rfl rfl) h2
  clear hA0 hval0
  refine (walk c al ll cl l t W hc hcc hkc hl hcl ht).mono fun e W' ⟨he, bel⟩ => ?_
  subst he
  exact ⟨_, rfl, _, _, _, [], _, [], hW', trodAll_mk1 (shut_bool Try.underlying4 _), (trodAll_cons_mk (Below.trod laidOut (by kernel_rfl) (of_decide_eq_true (by kernel_rfl)) k0 bel lt0) (trodAll_cons_mk (Below.trod laidOut (by kernel_rfl) (of_decide_eq_true (by kernel_rfl)) k1 bel lt1) (trodAll_cons_mk (shut_int Try.underlying5 ht) trodAll_mk0))), rfl, bel.frame _, fun h => by cases h⟩

theorem over : Rows.needTurnRow.holds Try.pinned (OpenSpec.ofChange Rows.needTurnSpec) :=
  OpenClaim.holds_of_wide 6 Try.f6 rfl rfl rfl rfl rfl rfl rfl ⟨rfl, rfl, rfl, rfl, rfl⟩ rfl rfl rfl rfl rfl (by kernel_rfl) Try.func6 (by kernel_rfl)
    (of_decide_eq_true (by kernel_rfl)) (by unfold Func.isWrapper; first | (rw [if_pos (by decide +kernel)]; kernel_rfl) | (rw [if_neg (by decide +kernel)]; exact ⟨rfl, rfl⟩))
    (fun os started H enc _ => lifted os started H enc)

theorem proved : Rows.NeedTurnSaid := over
#print axioms proved
end Go.Proofs.Ytkcdehnpkephgaa.needTurn
