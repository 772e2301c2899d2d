/-
  The document's own Live for package need (almeryref17.Live), met by a contract: the plain 'liveN'; all memory that was there is as it was.
-/
import Derived.Test.YtkcdehnpkephgaaNeedRef
import Derived.Test.YtkcdehnpkephgaaHeldOff
import Derived.Deep.QuietTactic
import Derived.BigQuiet
namespace Go.Proofs.Ytkcdehnpkephgaa
open Go.ChangeShapes Go.WideShapes Go.ChangeAt Go.RowKit

theorem liveN_next {c : Cf} {l : List Int} {i : Nat} {s k : Int} (hs : l[i]? = some s) : ((liveN c (l.take (i + 1)) k : Nat) : Int) = liveN c (l.take i) k + (if liveB c k s = true then 1 else 0) := by
  rw [List.take_add_one, hs]
  show ((liveN c (l.take i ++ [s]) k : Nat) : Int) = _
  rw [liveN_app, liveN_one]
  split <;> simp

set_option maxRecDepth 20000 in
set_option maxHeartbeats 4000000 in
theorem refLive_any (c : Cf) (a : Option Addr) (n k0 : Nat) (l : List Int) (k : Int) (w : World) (hc : c.Ok w w.heap.size) (hl : Ints w w.heap.size a n l) (hn : n ≤ 1000000) :
    Calls Try.prog 15 #[(.agg #[.int .i64 c.size, .int .i64 c.pages, .slice c.ca c.cn c.cc, .slice c.ka c.kn c.kc, .int .i64 c.step, .int .i64 c.slots, .int .i64 c.gens, .int .i64 c.most]), .slice a n k0, .int .i64 k] w (IB ((liveN c l k : Nat) : Int) w) := by
  have HN := Lib.hid hl.len
  have B0 := Boxed.new w c
  have C0 := Lib.hid (hc.classes.on (below1 w (.cells #[.int .i64 c.size, .int .i64 c.pages, .slice c.ca c.cn c.cc, .slice c.ka c.kn c.kc, .int .i64 c.step, .int .i64 c.slots, .int .i64 c.gens, .int .i64 c.most] 24)))
  have L0 := Lib.hid (hl.on (below1 w (.cells #[.int .i64 c.size, .int .i64 c.pages, .slice c.ca c.cn c.cc, .slice c.ka c.kn c.kc, .int .i64 c.step, .int .i64 c.slots, .int .i64 c.gens, .int .i64 c.most] 24)))
  have b0 := Lib.hid (below1 w (.cells #[.int .i64 c.size, .int .i64 c.pages, .slice c.ca c.cn c.cc, .slice c.ka c.kn c.kc, .int .i64 c.step, .int .i64 c.slots, .int .i64 c.gens, .int .i64 c.most] 24))
  clear hc hl
  go_enter Try.func15, Try.ntmps15
  go_wp2
  generalize w.alloc (.cells #[.int .i64 c.size, .int .i64 c.pages, .slice c.ca c.cn c.cc, .slice c.ka c.kn c.kc, .int .i64 c.step, .int .i64 c.slots, .int .i64 c.gens, .int .i64 c.most] 24) = w1 at *
  go_loopw [7, 8] (fun t i wr => ∃ j : Nat, j ≤ n ∧ i = .int .i64 (j : Int) ∧ t = .int .i64 ((liveN c (l.take j) k : Nat) : Int) ∧ Hid (Below w1.heap.size w1 wr)) (fun _ i _ => n - (intOf i).toNat)
  case atStart => exact ⟨0, Nat.zero_le _, rfl, rfl, Lib.hid (Below.refl _ _)⟩
  case round =>
    obtain ⟨j, hj, rfl, rfl, bw⟩ := hrel
    by_cases hlt : j < n
    · have dlt : decide ((j : Int) < (n : Int)) = true := decide_eq_true (by omega)
      have Lw := L0.out.below bw.out
      obtain ⟨s, hs, s1, s2⟩ := Lw.at_ hlt
      obtain ⟨b, o, rfl, hb, hcl⟩ := Lw.head (by omega)
      have hcell := hcl j s hs
      have HX := Lib.hid (liveN_next (c := c) (k := k) hs)
      have hv := liveN_len (c := c) (l := l.take j) (k := k)
      have hv2 : (l.take j).length ≤ 1000000 := by rw [List.length_take]; omega
      obtain ⟨v, ev⟩ : ∃ v, v = ((liveN c (l.take j) k : Nat) : Int) := ⟨_, rfl⟩
      have hvv : 0 ≤ v ∧ v ≤ 1000000 := by omega
      rw [← ev] at HX ⊢
      clear hv hv2 ev hcl hs Lw
      have Bw := B0.on bw.out
      have ⟨x0, x1, x2, x3, x4, x5, x6, x7, x8⟩ := Bw
      have hbw : b < wr.heap.size := Nat.lt_of_lt_of_le hb bw.out.size
      have hji : (j : Int) < (n : Int) := by omega
      by_cases hk : 0 ≤ k
      · have dk : decide (0 ≤ k) = true := decide_eq_true hk
        cases hT : isT c s with
        | false =>
          have ef : liveB c k s = false := by simp [liveB, hT]
          rw [ef] at HX
          have HI := Lib.hid (fun v => refIs_any c s v)
          rw [hT] at HI
          clear ef hT
          go_wp2_with fail
          refine wp_region_held_drew (S := (fun w' => w'.cell? ⟨b, o + j, none⟩ = some (.int .i64 s) ∧ w'.cell? ⟨w.heap.size, 0, none⟩ = some (.int .i64 c.size) ∧ w'.cell? ⟨w.heap.size, 1, none⟩ = some (.int .i64 c.pages) ∧
            w'.cell? ⟨w.heap.size, 2, none⟩ = some (.slice c.ca c.cn c.cc) ∧ w'.cell? ⟨w.heap.size, 3, none⟩ = some (.slice c.ka c.kn c.kc) ∧
            w'.cell? ⟨w.heap.size, 4, none⟩ = some (.int .i64 c.step) ∧ w'.cell? ⟨w.heap.size, 5, none⟩ = some (.int .i64 c.slots) ∧
            w'.cell? ⟨w.heap.size, 6, none⟩ = some (.int .i64 c.gens) ∧ w'.cell? ⟨w.heap.size, 7, none⟩ = some (.int .i64 c.most))) (by kernel_rfl) ⟨hcell, x0, x1, x2, x3, x4, x5, x6, x7⟩ (fun hHeld => ?_)
          refine held_on (i := 0) (v := ?_) rfl (by kernel_rfl) (by kernel_rfl) (by kernel_rfl) (fun _ _ _ h => h) ?_ ?_ (by assumption) ?_
          rotate_left 1
          · rfl
          · intro w hSw; (try dsimp only at hSw); go_simp; try with_reducible rfl
          try simp only [Act.put, List.setIfInBounds_toArray, List.set_cons_zero, List.set_cons_succ, List.getElem_toArray, List.getElem_cons_zero]
          refine held_on (i := 1) (v := ?_) rfl (by kernel_rfl) (by kernel_rfl) (by kernel_rfl) (fun _ _ _ h => h) ?_ ?_ (by assumption) ?_
          rotate_left 1
          · rfl
          · intro w hSw; (try dsimp only at hSw); go_simp; try with_reducible rfl
          try simp only [Act.put, List.setIfInBounds_toArray, List.set_cons_zero, List.set_cons_succ, List.getElem_toArray, List.getElem_cons_zero, List.getElem_cons_succ]
          refine held_on (i := 2) (v := ?_) rfl (by kernel_rfl) (by kernel_rfl) (by kernel_rfl) (fun _ _ _ h => h) ?_ ?_ (by assumption) ?_
          rotate_left 1
          · rfl
          · intro w hSw; (try dsimp only at hSw); go_simp; try with_reducible rfl
          try simp only [Act.put, List.setIfInBounds_toArray, List.set_cons_zero, List.set_cons_succ, List.getElem_toArray, List.getElem_cons_zero, List.getElem_cons_succ]
          refine held_on (i := 3) (v := ?_) rfl (by kernel_rfl) (by kernel_rfl) (by kernel_rfl) (fun _ _ _ h => h) ?_ ?_ (by assumption) ?_
          rotate_left 1
          · rfl
          · intro w hSw; (try dsimp only at hSw); go_simp; try with_reducible rfl
          try simp only [Act.put, List.setIfInBounds_toArray, List.set_cons_zero, List.set_cons_succ, List.getElem_toArray, List.getElem_cons_zero, List.getElem_cons_succ]
          refine held_on (i := 4) (v := ?_) rfl (by kernel_rfl) (by kernel_rfl) (by kernel_rfl) (fun _ _ _ h => h) ?_ ?_ (by assumption) ?_
          rotate_left 1
          · rfl
          · intro w hSw; (try dsimp only at hSw); go_simp; try with_reducible rfl
          try simp only [Act.put, List.setIfInBounds_toArray, List.set_cons_zero, List.set_cons_succ, List.getElem_toArray, List.getElem_cons_zero, List.getElem_cons_succ]
          refine held_on (i := 5) (v := ?_) rfl (by kernel_rfl) (by kernel_rfl) (by kernel_rfl) (fun _ _ _ h => h) ?_ ?_ (by assumption) ?_
          rotate_left 1
          · rfl
          · intro w hSw; (try dsimp only at hSw); go_simp; try with_reducible rfl
          try simp only [Act.put, List.setIfInBounds_toArray, List.set_cons_zero, List.set_cons_succ, List.getElem_toArray, List.getElem_cons_zero, List.getElem_cons_succ]
          refine held_on (i := 6) (v := ?_) rfl (by kernel_rfl) (by kernel_rfl) (by kernel_rfl) (fun _ _ _ h => h) ?_ ?_ (by assumption) ?_
          rotate_left 1
          · rfl
          · intro w hSw; (try dsimp only at hSw); go_simp; try with_reducible rfl
          try simp only [Act.put, List.setIfInBounds_toArray, List.set_cons_zero, List.set_cons_succ, List.getElem_toArray, List.getElem_cons_zero, List.getElem_cons_succ]
          refine held_on (i := 7) (v := ?_) rfl (by kernel_rfl) (by kernel_rfl) (by kernel_rfl) (fun _ _ _ h => h) ?_ ?_ (by assumption) ?_
          rotate_left 1
          · rfl
          · intro w hSw; (try dsimp only at hSw); go_simp; try with_reducible rfl
          try simp only [Act.put, List.setIfInBounds_toArray, List.set_cons_zero, List.set_cons_succ, List.getElem_toArray, List.getElem_cons_zero, List.getElem_cons_succ]
          refine wpAnyH_ready (rs := [8]) (by kernel_rfl) (by simp) ?_
          refine AllReadyH.cons rfl (fun K hK => ?_) AllReadyH.nil
          go_simp
          refine (HI.out _).mono ?_
          rintro e w5 ⟨rfl, f5⟩
          refine hK.out _ _ (keep9c f5 x8 hbw hHeld) (fun hHeld2 => ?_)
          clear hK K hHeld
          refine held_on (i := 9) (v := ?_) rfl (by kernel_rfl) (by kernel_rfl) (by kernel_rfl) (fun _ _ _ h => h) ?_ ?_ (by assumption) ?_
          rotate_left 1
          · rfl
          · intro w hSw; (try dsimp only at hSw); go_simp; try with_reducible rfl
          try simp only [Act.put, List.setIfInBounds_toArray, List.set_cons_zero, List.set_cons_succ, List.getElem_toArray, List.getElem_cons_zero, List.getElem_cons_succ]
          refine held_on (i := 10) (v := ?_) rfl (by kernel_rfl) (by kernel_rfl) (by kernel_rfl) (fun _ _ _ h => h) ?_ ?_ (by assumption) ?_
          rotate_left 1
          · rfl
          · intro w hSw; (try dsimp only at hSw); go_simp; try with_reducible rfl
          try simp only [Act.put, List.setIfInBounds_toArray, List.set_cons_zero, List.set_cons_succ, List.getElem_toArray, List.getElem_cons_zero, List.getElem_cons_succ]
          refine held_off (i := 11) rfl (by kernel_rfl) (by kernel_rfl) (by kernel_rfl) (fun _ _ _ h => h) ?_ (by assumption) ?_
          · rfl
          try simp only [Act.put, List.setIfInBounds_toArray, List.set_cons_zero, List.set_cons_succ, List.getElem_toArray, List.getElem_cons_zero, List.getElem_cons_succ]
          refine held_off (i := 12) rfl (by kernel_rfl) (by kernel_rfl) (by kernel_rfl) (fun _ _ _ h => h) ?_ (by assumption) ?_
          · rfl
          try simp only [Act.put, List.setIfInBounds_toArray, List.set_cons_zero, List.set_cons_succ, List.getElem_toArray, List.getElem_cons_zero, List.getElem_cons_succ]
          refine held_off (i := 13) rfl (by kernel_rfl) (by kernel_rfl) (by kernel_rfl) (fun _ _ _ h => h) ?_ (by assumption) ?_
          · rfl
          try simp only [Act.put, List.setIfInBounds_toArray, List.set_cons_zero, List.set_cons_succ, List.getElem_toArray, List.getElem_cons_zero, List.getElem_cons_succ]
          refine held_off (i := 14) rfl (by kernel_rfl) (by kernel_rfl) (by kernel_rfl) (fun _ _ _ h => h) ?_ (by assumption) ?_
          · rfl
          try simp only [Act.put, List.setIfInBounds_toArray, List.set_cons_zero, List.set_cons_succ, List.getElem_toArray, List.getElem_cons_zero, List.getElem_cons_succ]
          refine held_off (i := 15) rfl (by kernel_rfl) (by kernel_rfl) (by kernel_rfl) (fun _ _ _ h => h) ?_ (by assumption) ?_
          · rfl
          try simp only [Act.put, List.setIfInBounds_toArray, List.set_cons_zero, List.set_cons_succ, List.getElem_toArray, List.getElem_cons_zero, List.getElem_cons_succ]
          refine held_off (i := 16) rfl (by kernel_rfl) (by kernel_rfl) (by kernel_rfl) (fun _ _ _ h => h) ?_ (by assumption) ?_
          · rfl
          try simp only [Act.put, List.setIfInBounds_toArray, List.set_cons_zero, List.set_cons_succ, List.getElem_toArray, List.getElem_cons_zero, List.getElem_cons_succ]
          refine held_off (i := 17) rfl (by kernel_rfl) (by kernel_rfl) (by kernel_rfl) (fun _ _ _ h => h) ?_ (by assumption) ?_
          · rfl
          try simp only [Act.put, List.setIfInBounds_toArray, List.set_cons_zero, List.set_cons_succ, List.getElem_toArray, List.getElem_cons_zero, List.getElem_cons_succ]
          refine held_off (i := 18) rfl (by kernel_rfl) (by kernel_rfl) (by kernel_rfl) (fun _ _ _ h => h) ?_ (by assumption) ?_
          · rfl
          try simp only [Act.put, List.setIfInBounds_toArray, List.set_cons_zero, List.set_cons_succ, List.getElem_toArray, List.getElem_cons_zero, List.getElem_cons_succ]
          refine held_off (i := 19) rfl (by kernel_rfl) (by kernel_rfl) (by kernel_rfl) (fun _ _ _ h => h) ?_ (by assumption) ?_
          · rfl
          try simp only [Act.put, List.setIfInBounds_toArray, List.set_cons_zero, List.set_cons_succ, List.getElem_toArray, List.getElem_cons_zero, List.getElem_cons_succ]
          refine held_on (i := 20) (v := ?_) rfl (by kernel_rfl) (by kernel_rfl) (by kernel_rfl) (fun _ _ _ h => h) ?_ ?_ (by assumption) ?_
          rotate_left 1
          · rfl
          · intro w hSw; (try dsimp only at hSw); go_simp; try with_reducible rfl
          try simp only [Act.put, List.setIfInBounds_toArray, List.set_cons_zero, List.set_cons_succ, List.getElem_toArray, List.getElem_cons_zero, List.getElem_cons_succ]
          refine wpAnyH_done (by kernel_rfl) ?_ _
          have f6 : Hid (Below w1.heap.size w1 w5) := Lib.hid (bw.out.trans (Below.mono (show Below wr.heap.size wr w5 from ⟨f5.os, f5.tape, f5.output, f5.size, f5.block⟩) bw.out.size))
          clear f5 hHeld2
          go_wp2
          go_roundw
          case rel => exact ⟨j + 1, by omega, by go_num, by rw [HX.out]; simp, f6⟩
          case measure => simp [intOf]; omega
        | true =>
          have ef : liveB c k s = (pick c.xs s == k) := by simp [liveB, hT, hk]
          rw [ef] at HX
          have HI := Lib.hid (fun v => refIs_any c s v)
          rw [hT] at HI
          have HP := Lib.hid (fun v hv => refPick_any c.ca c.cn c.cc c.xs s w1.heap.size v hv)
          have Cw := Lib.hid (C0.out.below bw.out)
          generalize pick c.xs s = p at *
          clear ef hT
          cases hq : (p == k) with
          | false =>
            rw [hq] at HX
            go_wp2_with fail
            go_region_held3 (fun w' => w'.cell? ⟨b, o + j, none⟩ = some (.int .i64 s) ∧ w'.cell? ⟨w.heap.size, 0, none⟩ = some (.int .i64 c.size) ∧ w'.cell? ⟨w.heap.size, 1, none⟩ = some (.int .i64 c.pages) ∧
            w'.cell? ⟨w.heap.size, 2, none⟩ = some (.slice c.ca c.cn c.cc) ∧ w'.cell? ⟨w.heap.size, 3, none⟩ = some (.slice c.ka c.kn c.kc) ∧
            w'.cell? ⟨w.heap.size, 4, none⟩ = some (.int .i64 c.step) ∧ w'.cell? ⟨w.heap.size, 5, none⟩ = some (.int .i64 c.slots) ∧
            w'.cell? ⟨w.heap.size, 6, none⟩ = some (.int .i64 c.gens) ∧ w'.cell? ⟨w.heap.size, 7, none⟩ = some (.int .i64 c.most))
              (first | exact ⟨hcell, x0, x1, x2, x3, x4, x5, x6, x7⟩ | exact keep9c f5 x8 hbw (by assumption) | go_keep)
              (first
                | (go_at_call 16; refine (HI.out _).mono ?_; rintro e w5 ⟨rfl, f5⟩)
                | (go_at_call 35; refine (HP.out _ (Ints.below (Ints.drew Cw.out) (Below.mono f5 bw.out.size))).mono ?_; rintro e w6 ⟨rfl, rfl⟩))
            have f6 : Hid (Below w1.heap.size w1 w5) := Lib.hid (bw.out.trans (Below.mono (show Below wr.heap.size wr w5 from ⟨f5.os, f5.tape, f5.output, f5.size, f5.block⟩) bw.out.size))
            clear f5
            go_wp2
            go_roundw
            case rel => exact ⟨j + 1, by omega, by go_num, by rw [HX.out]; simp, f6⟩
            case measure => simp [intOf]; omega
          | true =>
            rw [hq] at HX
            go_wp2_with fail
            go_region_held3 (fun w' => w'.cell? ⟨b, o + j, none⟩ = some (.int .i64 s) ∧ w'.cell? ⟨w.heap.size, 0, none⟩ = some (.int .i64 c.size) ∧ w'.cell? ⟨w.heap.size, 1, none⟩ = some (.int .i64 c.pages) ∧
            w'.cell? ⟨w.heap.size, 2, none⟩ = some (.slice c.ca c.cn c.cc) ∧ w'.cell? ⟨w.heap.size, 3, none⟩ = some (.slice c.ka c.kn c.kc) ∧
            w'.cell? ⟨w.heap.size, 4, none⟩ = some (.int .i64 c.step) ∧ w'.cell? ⟨w.heap.size, 5, none⟩ = some (.int .i64 c.slots) ∧
            w'.cell? ⟨w.heap.size, 6, none⟩ = some (.int .i64 c.gens) ∧ w'.cell? ⟨w.heap.size, 7, none⟩ = some (.int .i64 c.most))
              (first | exact ⟨hcell, x0, x1, x2, x3, x4, x5, x6, x7⟩ | exact keep9c f5 x8 hbw (by assumption) | go_keep)
              (first
                | (go_at_call 16; refine (HI.out _).mono ?_; rintro e w5 ⟨rfl, f5⟩)
                | (go_at_call 35; refine (HP.out _ (Ints.below (Ints.drew Cw.out) (Below.mono f5 bw.out.size))).mono ?_; rintro e w6 ⟨rfl, rfl⟩))
            have f6 : Hid (Below w1.heap.size w1 w5) := Lib.hid (bw.out.trans (Below.mono (show Below wr.heap.size wr w5 from ⟨f5.os, f5.tape, f5.output, f5.size, f5.block⟩) bw.out.size))
            clear f5
            go_wp2
            go_roundw
            case rel => exact ⟨j + 1, by omega, by go_num, by rw [HX.out]; simp, f6⟩
            case measure => simp [intOf]; omega
      · have dk : decide (0 ≤ k) = false := decide_eq_false hk
        have ef : liveB c k s = false := by simp [liveB, hk]
        rw [ef] at HX
        clear ef
        go_wp2_with fail
        go_quiet (fail)
        go_wp2
        go_roundw
        case rel => exact ⟨j + 1, by omega, by go_num, by rw [HX.out]; simp, Lib.hid (belowN bw.out _)⟩
        case measure => simp [intOf]; omega
    · obtain rfl : j = n := by omega
      have dlt : decide ((j : Int) < (j : Int)) = false := by simp
      have e : l.take j = l := List.take_of_length_le (by have := HN.out; omega)
      rw [e]
      go_wp2
      go_ret
      exact ⟨rfl, b0.out.trans (bw.out.mono b0.out.size)⟩
end Go.Proofs.Ytkcdehnpkephgaa
