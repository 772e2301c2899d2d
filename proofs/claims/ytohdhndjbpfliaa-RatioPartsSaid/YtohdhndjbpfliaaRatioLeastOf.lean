/-
  Least of package ratio, and the document's own answer for it, each met by a contract: whatever slice of floats comes in, they return the bits 'leastL', and draw at most.
-/
import Derived.Test.YtohdhndjbpfliaaRatioLeast
namespace Go.Proofs.Ytohdhndjbpfliaa
open Go.ChangeShapes Go.WideShapes Go.ChangeAt Go.RowKit

/-- It returns the float v, and draws at most. -/
def FD (v : Nat) (w : World) (e : Ending) (w' : World) : Prop := e = .returned (.float .f64 v) ∧ ∃ d, w' = w.drewN d

theorem refLeast_any (a : Option Addr) (n c : Nat) (xs : List Nat) (B : Nat) (w : World) (h : Floats w B a n xs) :
    Calls Try.prog 16 #[.slice a n c] w (FD (leastL xs) w) := by
  have hmax := h.max
  by_cases h0 : n = 0
  · have e : xs = [] := List.length_eq_zero_iff.1 (by rw [h.len]; exact h0)
    subst h0
    subst e
    go_enter Try.func16, Try.ntmps16
    go_wp2_with fail
    refine (naN_any _).mono ?_
    rintro e w' ⟨rfl, rfl⟩
    go_wp2
    go_ret
    exact ⟨rfl, 0, rfl⟩
  · obtain ⟨s, hs, s1⟩ := h.at_ (k := 0) (by omega)
    obtain ⟨b, o, rfl, hb, hc⟩ := h.head (by omega)
    have hcell := hc 0 s hs
    rw [Nat.add_zero] at hcell
    have HE := Lib.hid (leastL_cons hs)
    have HL := Lib.hid h.len
    have HC := Lib.hid hc
    have HX := Lib.hid (fun k (hk : k < n) => h.at_ hk)
    have hn : 0 < (n : Int) := by omega
    have hz : ((n : Int) == 0) = false := by simp; omega
    clear hc hs
    go_enter Try.func16, Try.ntmps16
    go_wp2
    go_loop [3, 4] (fun l i => ∃ k m : Nat, 1 ≤ k ∧ k ≤ n ∧ l = .float .f64 m ∧ i = .int .i64 k ∧ m < 18446744073709551616 ∧ leastFrom m (xs.drop k) = leastL xs) (fun _ i => n - (intOf i).toNat)
    case atStart => exact ⟨1, s, by omega, by omega, rfl, rfl, s1, HE.out.symm⟩
    case round =>
      obtain ⟨k, m, hk1, hk, rfl, rfl, hm, hl⟩ := hrel
      have HK := Lib.hid hl
      clear hl
      by_cases hlt : k < n
      · obtain ⟨x, hx, x1⟩ := HX.out k hlt
        have hcx := HC.out k x hx
        have HS := Lib.hid (leastFrom_step (m := m) hx)
        clear hx
        cases hq : below x m
        · have HN := Lib.hid (show leastFrom m (xs.drop (k + 1)) = leastL xs by rw [← HK.out, HS.out, show lesser m x = m by simp [lesser, hq]])
          go_wp2_with fail
          refine (refBelow_any x m _ x1 hm).mono ?_
          rintro e w' ⟨rfl, rfl⟩
          go_wp2
          go_round
          case rel => exact ⟨k + 1, m, by omega, by omega, rfl, by go_num, hm, HN.out⟩
          case measure => simp [intOf]; omega
        · have HN := Lib.hid (show leastFrom x (xs.drop (k + 1)) = leastL xs by rw [← HK.out, HS.out, show lesser m x = x by simp [lesser, hq]])
          go_wp2_with fail
          refine (refBelow_any x m _ x1 hm).mono ?_
          rintro e w' ⟨rfl, rfl⟩
          go_wp2
          go_round
          case rel => exact ⟨k + 1, x, by omega, by omega, rfl, by go_num, x1, HN.out⟩
          case measure => simp [intOf]; omega
      · have e : n = k := by omega
        have HF := Lib.hid (show m = leastL xs by rw [← HK.out, List.drop_eq_nil_of_le (by rw [HL.out]; omega)]; rfl)
        clear e
        go_wp2
        go_ret
        rw [← HF.out]
        exact ⟨rfl, 0, rfl⟩

/-- A slice of floats, cut at the front. -/
theorem cut_run {w : World} {B b o n c : Nat} {xs : List Nat} (h : Floats w B (some ⟨b, o, none⟩) n xs) {k : Nat} (hk : k ≤ n) (hnc : n ≤ c) :
    ∃ (a' : Option Addr) (c' : Nat), n - k ≤ c' ∧ (∀ v, (Instr.sliceAt 29 (.slice (some ⟨b, o, none⟩) n c) (some (.int .i64 (k : Int))) none none).run Try.prog v = .ok (.slice a' (n - k) c') v) ∧ Floats w B a' (n - k) (xs.drop k) := by
  have hu : Try.prog.underlying 29 = some (.slice (Try.prog.elem 29)) := by kernel_rfl
  have hs : ∀ v, (sizeOf (Try.prog.elem 29)).run Try.prog v = .ok 1 v := fun v => by kernel_rfl
  have run : ∀ v, (Instr.sliceAt 29 (.slice (some ⟨b, o, none⟩) n c) (some (.int .i64 (k : Int))) none none).run Try.prog v = .ok (sliced (some ⟨b, o, none⟩) k n c 1) v := by
    intro v
    rw [run_sliceAt_slice _ _ _ _ _ _ hu, run_slice_l _ _ _ _ _ hu _ _ (by omega) (by omega), hs]
    simp [Result.andThen]
  by_cases hc : c = k
  · exact ⟨some ⟨b, o, none⟩, c - k, by omega, fun v => (run v).trans (by simp [sliced, hc]), h.none_left (by omega) _⟩
  · refine ⟨some ⟨b, o + k, none⟩, c - k, by omega, fun v => (run v).trans ?_, h.drop k⟩
    by_cases h0 : k = 0
    · subst h0; simp [sliced, Addr.add]
    · simp [sliced, hc, Addr.add, h0]

theorem least_any (a : Option Addr) (n c : Nat) (xs : List Nat) (B : Nat) (w : World) (h : Floats w B a n xs) (hnc : n ≤ c) :
    Calls Try.prog 15 #[.slice a n c] w (FD (leastL xs) w) := by
  have hmf : ∀ (fn : Fn) (first cap : Array Value) (w : World), (Instr.makeFunc fn first cap).run Try.prog w = .ok (.func fn first cap) w := fun _ _ _ _ => rfl
  have hmax := h.max
  by_cases h0 : n = 0
  · have e : xs = [] := List.length_eq_zero_iff.1 (by rw [h.len]; exact h0)
    subst h0
    subst e
    go_enter Try.func15, Try.ntmps15
    go_wp2_with fail
    refine (naN_any _).mono ?_
    rintro e w' ⟨rfl, rfl⟩
    go_wp2
    go_ret
    exact ⟨rfl, 0, rfl⟩
  · obtain ⟨s, hs, s1⟩ := h.at_ (k := 0) (by omega)
    obtain ⟨b, o, rfl, hb, hc⟩ := h.head (by omega)
    have hcell := hc 0 s hs
    rw [Nat.add_zero] at hcell
    have HE := Lib.hid (leastL_cons hs)
    obtain ⟨a', c', hnc', hcut, hF⟩ := cut_run (c := c) h (k := 1) (by omega) hnc
    have HF := Lib.hid hF
    have hcut1 : ∀ v, (Instr.sliceAt 29 (.slice (some ⟨b, o, none⟩) n c) (some (.int .i64 1)) none none).run Try.prog v = .ok (.slice a' (n - 1) c') v := hcut
    have hn : 0 < (n : Int) := by omega
    have hn1 : 1 ≤ (n : Int) := by omega
    have hz : ((n : Int) == 0) = false := by simp; omega
    clear hc hs h hcut hF
    go_enter Try.func15, Try.ntmps15
    go_wp2
    go_quiet (fail)
    go_wp2
    go_loopw [3, 4] (fun l r wr => ∃ (m : Nat) (a' : Option Addr) (n' c' : Nat) (ys : List Nat), l = .float .f64 m ∧ r = .slice a' n' c' ∧ n' ≤ c' ∧ Floats w B a' n' ys ∧ leastFrom m ys = leastL xs ∧ ∃ d, wr = w.drewN d) (fun _ r _ => sliceLen r)
    case atStart => exact ⟨s, a', n - 1, c', _, rfl, rfl, hnc', HF.out, HE.out.symm, _, rfl⟩
    case round =>
      clear hcut1 hcell hnc' HE HF
      obtain ⟨m, a1, n1, c1, ys, rfl, rfl, hnc1, hF1, hl, d, rfl⟩ := hrel
      have HL := Lib.hid hl
      have H1 := Lib.hid hF1
      have hmax1 := hF1.max
      have HI := Lib.hid (index_any a1 n1 c1 ys m B (w.drewN d) (hF1.drewN d))
      clear hl hF1
      go_wp2_with fail
      refine HI.out.mono ?_
      rintro e w' ⟨r, rfl, hidx, rfl⟩
      rcases hidx with ⟨k, x, rfl, hk, hx, hb', hno⟩ | ⟨rfl, hno⟩
      · rw [H1.out.len] at hk
        obtain ⟨b1, o1, rfl, hb1, hc1⟩ := H1.out.head (by omega)
        have hcx := hc1 k x hx
        have HN := Lib.hid (show leastFrom x (ys.drop (k + 1)) = leastL xs by rw [← HL.out, leastFrom_hit hno hx hb'])
        obtain ⟨a2, c2, hnc2, hcut, hF⟩ := cut_run (c := c1) H1.out (k := k + 1) (by omega) hnc1
        have HF := Lib.hid hF
        have hcut2 : ∀ v, (Instr.sliceAt 29 (.slice (some ⟨b1, o1, none⟩) n1 c1) (some (.int .i64 ((k : Int) + 1))) none none).run Try.prog v = .ok (.slice a2 (n1 - (k + 1)) c2) v := hcut
        have hkn : (k : Int) < (n1 : Int) := by omega
        clear hc1 hx hno hb' hcut hF
        go_wp2
        go_quiet (fail)
        go_wp2
        go_roundw
        case rel => exact ⟨x, a2, n1 - (k + 1), c2, _, rfl, rfl, hnc2, HF.out, HN.out, _, (by rw [World.drewN_drewN])⟩
        case measure => simp [sliceLen]; omega
      · have HM := Lib.hid (show m = leastL xs by rw [← HL.out, leastFrom_none hno])
        clear hno
        go_wp2
        go_ret
        rw [← HM.out]
        exact ⟨rfl, _, rfl⟩
end Go.Proofs.Ytohdhndjbpfliaa
