/-
  Read and Write of package bound, met by contracts: the plain 'readB', 'writeB'; all memory that was there is as it was.
-/
import Derived.Test.YtpdhlnkdjcghpaaBoundTell
namespace Go.Proofs.Ytpdhlnkdjcghpaa
open Go.ChangeShapes Go.WideShapes Go.ChangeAt Go.RowKit

section
variable {c : Cf} {s n : Int} {w : World}
theorem read_none_run (k b p d : Int) (h : k = 0 ∨ n < 0 ∨ s < n) (H : Hid (Calls Try.prog 19 #[(.agg #[.int .i64 c.size, .int .i64 c.pages, .slice c.ca c.cn c.cc, .slice c.ka c.kn c.kc, .int .i64 c.step, .int .i64 c.slots, .int .i64 c.gens, .int .i64 c.most]), .int .i64 s] (w.alloc (.cells #[.int .i64 c.size, .int .i64 c.pages, .slice c.ca c.cn c.cc, .slice c.ka c.kn c.kc, .int .i64 c.step, .int .i64 c.slots, .int .i64 c.gens, .int .i64 c.most] 24)) (ThEnd k b p d (w.alloc (.cells #[.int .i64 c.size, .int .i64 c.pages, .slice c.ca c.cn c.cc, .slice c.ka c.kn c.kc, .int .i64 c.step, .int .i64 c.slots, .int .i64 c.gens, .int .i64 c.most] 24))))) :
    Calls Try.prog 13 #[(.agg #[.int .i64 c.size, .int .i64 c.pages, .slice c.ca c.cn c.cc, .slice c.ka c.kn c.kc, .int .i64 c.step, .int .i64 c.slots, .int .i64 c.gens, .int .i64 c.most]), .int .i64 s, .int .i64 n] w (IB 0 w) := by
  have hmf : ∀ (fn : Fn) (first cap : Array Value) (w : World), (Instr.makeFunc fn first cap).run Try.prog w = .ok (.func fn first cap) w := fun _ _ _ _ => rfl
  have b0 := below1 w (.cells #[.int .i64 c.size, .int .i64 c.pages, .slice c.ca c.cn c.cc, .slice c.ka c.kn c.kc, .int .i64 c.step, .int .i64 c.slots, .int .i64 c.gens, .int .i64 c.most] 24)
  by_cases h0 : k = 0
  · subst h0
    clear h
    go_enter Try.func13, Try.ntmps13
    go_wp2_with fail
    refine H.out.mono ?_
    rintro e w1 ⟨rfl, f1⟩
    have b1 := belowT b0 f1
    go_wp2
    go_ret
    exact ⟨rfl, b1.alloc b1.size _⟩
  · have e0 : (k == 0) = false := by simpa using h0
    by_cases h1 : n < 0
    · have d1 : decide (n < 0) = true := decide_eq_true h1
      clear h h0
      go_enter Try.func13, Try.ntmps13
      go_wp2_with fail
      refine H.out.mono ?_
      rintro e w1 ⟨rfl, f1⟩
      have b1 := belowT b0 f1
      go_wp2
      go_ret
      exact ⟨rfl, b1.alloc b1.size _⟩
    · have d1 : decide (n < 0) = false := decide_eq_false h1
      have d2 : decide (s < n) = true := decide_eq_true (by omega)
      clear h h0
      go_enter Try.func13, Try.ntmps13
      go_wp2_with fail
      refine H.out.mono ?_
      rintro e w1 ⟨rfl, f1⟩
      have b1 := belowT b0 f1
      go_wp2
      go_ret
      exact ⟨rfl, b1.alloc b1.size _⟩
theorem read_small_run (b : Int) (h1 : 0 ≤ n) (h2 : n ≤ s) (hs : s ≤ 2097152) (H : Hid (Calls Try.prog 19 #[(.agg #[.int .i64 c.size, .int .i64 c.pages, .slice c.ca c.cn c.cc, .slice c.ka c.kn c.kc, .int .i64 c.step, .int .i64 c.slots, .int .i64 c.gens, .int .i64 c.most]), .int .i64 s] (w.alloc (.cells #[.int .i64 c.size, .int .i64 c.pages, .slice c.ca c.cn c.cc, .slice c.ka c.kn c.kc, .int .i64 c.step, .int .i64 c.slots, .int .i64 c.gens, .int .i64 c.most] 24)) (ThEnd 1 b 0 0 (w.alloc (.cells #[.int .i64 c.size, .int .i64 c.pages, .slice c.ca c.cn c.cc, .slice c.ka c.kn c.kc, .int .i64 c.step, .int .i64 c.slots, .int .i64 c.gens, .int .i64 c.most] 24))))) :
    Calls Try.prog 13 #[(.agg #[.int .i64 c.size, .int .i64 c.pages, .slice c.ca c.cn c.cc, .slice c.ka c.kn c.kc, .int .i64 c.step, .int .i64 c.slots, .int .i64 c.gens, .int .i64 c.most]), .int .i64 s, .int .i64 n] w (IB (1 + n) w) := by
  have hmf : ∀ (fn : Fn) (first cap : Array Value) (w : World), (Instr.makeFunc fn first cap).run Try.prog w = .ok (.func fn first cap) w := fun _ _ _ _ => rfl
  have b0 := below1 w (.cells #[.int .i64 c.size, .int .i64 c.pages, .slice c.ca c.cn c.cc, .slice c.ka c.kn c.kc, .int .i64 c.step, .int .i64 c.slots, .int .i64 c.gens, .int .i64 c.most] 24)
  have d1 : decide (n < 0) = false := decide_eq_false (by omega)
  have d2 : decide (s < n) = false := decide_eq_false (by omega)
  have HT := Lib.hid (fun v g (hg : v.heap.size = g) => tog2 1 n v g hg ⟨by omega, by omega, by omega, by omega⟩)
  clear h1 h2 hs
  go_enter Try.func13, Try.ntmps13
  go_wp2_with fail
  refine H.out.mono ?_
  rintro e w1 ⟨rfl, f1⟩
  have b1 := belowT b0 f1
  go_wp2_with fail
  refine (HT.out _ _ ?_).mono ?_
  · simp
  rintro e w2 ⟨rfl, rfl⟩
  go_wp2
  go_ret
  exact ⟨rfl, (b1.alloc b1.size _).alloc (by have := b1.size; simp at this ⊢ <;> omega) _⟩
set_option maxHeartbeats 1000000 in
theorem read_large_run (p d : Int) (h1 : 0 ≤ n) (h2 : n ≤ s) (hs : s ≤ 2097152) (hz : 64 ≤ c.size) (H : Hid (Calls Try.prog 19 #[(.agg #[.int .i64 c.size, .int .i64 c.pages, .slice c.ca c.cn c.cc, .slice c.ka c.kn c.kc, .int .i64 c.step, .int .i64 c.slots, .int .i64 c.gens, .int .i64 c.most]), .int .i64 s] (w.alloc (.cells #[.int .i64 c.size, .int .i64 c.pages, .slice c.ca c.cn c.cc, .slice c.ka c.kn c.kc, .int .i64 c.step, .int .i64 c.slots, .int .i64 c.gens, .int .i64 c.most] 24)) (ThEnd 2 0 p d (w.alloc (.cells #[.int .i64 c.size, .int .i64 c.pages, .slice c.ca c.cn c.cc, .slice c.ka c.kn c.kc, .int .i64 c.step, .int .i64 c.slots, .int .i64 c.gens, .int .i64 c.most] 24))))) :
    Calls Try.prog 13 #[(.agg #[.int .i64 c.size, .int .i64 c.pages, .slice c.ca c.cn c.cc, .slice c.ka c.kn c.kc, .int .i64 c.step, .int .i64 c.slots, .int .i64 c.gens, .int .i64 c.most]), .int .i64 s, .int .i64 n] w (IB (1 + n + many n c.size + 1) w) := by
  have hmf : ∀ (fn : Fn) (first cap : Array Value) (w : World), (Instr.makeFunc fn first cap).run Try.prog w = .ok (.func fn first cap) w := fun _ _ _ _ => rfl
  have b0 := below1 w (.cells #[.int .i64 c.size, .int .i64 c.pages, .slice c.ca c.cn c.cc, .slice c.ka c.kn c.kc, .int .i64 c.step, .int .i64 c.slots, .int .i64 c.gens, .int .i64 c.most] 24)
  have d1 : decide (n < 0) = false := decide_eq_false (by omega)
  have d2 : decide (s < n) = false := decide_eq_false (by omega)
  have hm := many_bounds (x := n) (p := c.size) h1 (by omega)
  have HD := Lib.hid (fun v => data_any n c.size v (by omega))
  have HT := Lib.hid (fun v g (hg : v.heap.size = g) => tog4 1 n (many n c.size) 1 v g hg ⟨by omega, by omega, by omega, by omega, by omega, by omega, by omega, by omega⟩)
  have hw1 : wrap64 (many n c.size) = many n c.size := IntWalk.wrap64_in _ (by omega)
  clear h1 h2 hs hm hz
  generalize many n c.size = m at *
  go_enter Try.func13, Try.ntmps13
  go_wp2_with fail
  refine H.out.mono ?_
  rintro e w1 ⟨rfl, f1⟩
  have b1 := belowT b0 f1
  have xs : (w1.alloc (.cells #[.int .i64 2, .int .i64 0, .int .i64 p, .int .i64 d] 37)).cell? ⟨w.heap.size, 0, none⟩ = some (.int .i64 c.size) := ((f1.alloc f1.size _).cell (p := ⟨w.heap.size, 0, none⟩) (by simp)).trans (by go_simp)
  have b2 := b1.alloc b1.size (.cells #[.int .i64 2, .int .i64 0, .int .i64 p, .int .i64 d] 37)
  clear f1 b1
  go_wp2_with fail
  refine (HD.out _).mono ?_
  rintro e w2 ⟨rfl, f2⟩
  have b3 := belowT b2 f2.below
  go_wp2_with fail
  refine (HT.out _ _ ?_).mono ?_
  · first | rfl | simp
  rintro e w3 ⟨rfl, rfl⟩
  go_wp2
  go_ret
  exact ⟨rfl, b3.alloc b3.size _⟩
theorem read_any (hc : c.Ok w w.heap.size) (M : MayC c) (hs : Fit s) : Calls Try.prog 13 #[(.agg #[.int .i64 c.size, .int .i64 c.pages, .slice c.ca c.cn c.cc, .slice c.ka c.kn c.kc, .int .i64 c.step, .int .i64 c.slots, .int .i64 c.gens, .int .i64 c.most]), .int .i64 s, .int .i64 n] w (IB (readB c s n) w) := by
  have hl := M.large
  rcases what_ways c s (w.alloc (.cells #[.int .i64 c.size, .int .i64 c.pages, .slice c.ca c.cn c.cc, .slice c.ka c.kn c.kc, .int .i64 c.step, .int .i64 c.slots, .int .i64 c.gens, .int .i64 c.most] 24)) (hc.on (below1 w (.cells #[.int .i64 c.size, .int .i64 c.pages, .slice c.ca c.cn c.cc, .slice c.ka c.kn c.kc, .int .i64 c.step, .int .i64 c.slots, .int .i64 c.gens, .int .i64 c.most] 24))) M hs with ⟨ht, HW⟩ | ⟨ht, hsm, HW⟩ | ⟨ht, hsm, HW⟩
  · rw [read_none (by simp [hasB, ht])]
    exact read_none_run _ _ _ _ (.inl rfl) (Lib.hid HW)
  · obtain ⟨t1, t2⟩ := isT_true.1 ht
    by_cases hn : 0 ≤ n ∧ n ≤ s
    · rw [read_small (hasB_true.2 ⟨ht, hn⟩) hsm]
      exact read_small_run _ hn.1 hn.2 (by omega) (Lib.hid HW)
    · rw [read_none (by cases q : hasB c s n with | false => rfl | true => exact absurd (hasB_true.1 q).2 hn)]
      exact read_none_run _ _ _ _ (by omega) (Lib.hid HW)
  · obtain ⟨t1, t2⟩ := isT_true.1 ht
    by_cases hn : 0 ≤ n ∧ n ≤ s
    · rw [read_large (hasB_true.2 ⟨ht, hn⟩) hsm]
      exact read_large_run _ _ hn.1 hn.2 (by omega) (by omega) (Lib.hid HW)
    · rw [read_none (by cases q : hasB c s n with | false => rfl | true => exact absurd (hasB_true.1 q).2 hn)]
      exact read_none_run _ _ _ _ (by omega) (Lib.hid HW)
theorem write_any (hc : c.Ok w w.heap.size) (M : MayC c) (hs : Fit s) : Calls Try.prog 14 #[(.agg #[.int .i64 c.size, .int .i64 c.pages, .slice c.ca c.cn c.cc, .slice c.ka c.kn c.kc, .int .i64 c.step, .int .i64 c.slots, .int .i64 c.gens, .int .i64 c.most]), .int .i64 s, .int .i64 n] w (IB (writeB c s n) w) := by
  have HR := Lib.hid (read_any (n := n) (hc.on (below1 w (.cells #[.int .i64 c.size, .int .i64 c.pages, .slice c.ca c.cn c.cc, .slice c.ka c.kn c.kc, .int .i64 c.step, .int .i64 c.slots, .int .i64 c.gens, .int .i64 c.most] 24))) M hs)
  have b0 := below1 w (.cells #[.int .i64 c.size, .int .i64 c.pages, .slice c.ca c.cn c.cc, .slice c.ka c.kn c.kc, .int .i64 c.step, .int .i64 c.slots, .int .i64 c.gens, .int .i64 c.most] 24)
  have hr := read_in (s := s) (n := n) M
  cases hh : hasB c s n with
  | false =>
    rw [write_none hh]
    rw [read_none hh] at HR
    clear hc M hs hr hh
    go_enter Try.func14, Try.ntmps14
    go_wp2_with fail
    refine HR.out.mono ?_
    rintro e w1 ⟨rfl, f1⟩
    have b1 := belowT b0 f1
    go_wp2
    go_ret
    exact ⟨rfl, b1⟩
  | true =>
    rw [write_some hh]
    obtain ⟨ht, n1, n2⟩ := hasB_true.1 hh
    have hl := M.large
    have t2 := (isT_true.1 ht).2
    have hp : 1 ≤ readB c s n := by
      by_cases hsm : s ≤ small c
      · rw [read_small hh hsm]; omega
      · have := many_bounds (x := n) (p := c.size) n1 (by omega)
        rw [read_large hh hsm]; omega
    have e0 : (readB c s n == 0) = false := by simp; omega
    have HT := Lib.hid (fun v g (hg : v.heap.size = g) => tog2 (readB c s n) n v g hg ⟨by omega, by omega, by omega, by omega⟩)
    clear hc M hs hr hh ht hl t2 hp n1 n2
    generalize readB c s n = r at *
    go_enter Try.func14, Try.ntmps14
    go_wp2_with fail
    refine HR.out.mono ?_
    rintro e w1 ⟨rfl, f1⟩
    have b1 := belowT b0 f1
    go_wp2_with fail
    refine (HT.out _ _ ?_).mono ?_
    · first | rfl | simp
    rintro e w2 ⟨rfl, rfl⟩
    go_wp2
    go_ret
    exact ⟨rfl, b1.alloc b1.size _⟩
end
end Go.Proofs.Ytpdhlnkdjcghpaa
