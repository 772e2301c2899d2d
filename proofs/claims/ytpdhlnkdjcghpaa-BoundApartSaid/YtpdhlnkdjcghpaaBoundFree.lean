/-
  Free of package bound, met by a contract: the plain 'freeB'; all memory that was there is as it was.
-/
import Derived.Test.YtpdhlnkdjcghpaaBoundTell
import Derived.Lib.MinMax
namespace Go.Proofs.Ytpdhlnkdjcghpaa
open Go.ChangeShapes Go.WideShapes Go.ChangeAt Go.RowKit

section
variable {c : Cf} {s : Int} {w : World}
theorem free_none_run (H : Hid (Calls Try.prog 19 #[(.agg #[.int .i64 c.size, .int .i64 c.pages, .slice c.ca c.cn c.cc, .slice c.ka c.kn c.kc, .int .i64 c.step, .int .i64 c.slots, .int .i64 c.gens, .int .i64 c.most]), .int .i64 s] (w.alloc (.cells #[.int .i64 c.size, .int .i64 c.pages, .slice c.ca c.cn c.cc, .slice c.ka c.kn c.kc, .int .i64 c.step, .int .i64 c.slots, .int .i64 c.gens, .int .i64 c.most] 24)) (ThEnd 0 0 0 0 (w.alloc (.cells #[.int .i64 c.size, .int .i64 c.pages, .slice c.ca c.cn c.cc, .slice c.ka c.kn c.kc, .int .i64 c.step, .int .i64 c.slots, .int .i64 c.gens, .int .i64 c.most] 24))))) :
    Calls Try.prog 9 #[(.agg #[.int .i64 c.size, .int .i64 c.pages, .slice c.ca c.cn c.cc, .slice c.ka c.kn c.kc, .int .i64 c.step, .int .i64 c.slots, .int .i64 c.gens, .int .i64 c.most]), .int .i64 s] w (IB 0 w) := by
  have hmf : ∀ (fn : Fn) (first cap : Array Value) (w : World), (Instr.makeFunc fn first cap).run Try.prog w = .ok (.func fn first cap) w := fun _ _ _ _ => rfl
  have b0 := below1 w (.cells #[.int .i64 c.size, .int .i64 c.pages, .slice c.ca c.cn c.cc, .slice c.ka c.kn c.kc, .int .i64 c.step, .int .i64 c.slots, .int .i64 c.gens, .int .i64 c.most] 24)
  go_enter Try.func9, Try.ntmps9
  go_wp2_with fail
  refine H.out.mono ?_
  rintro e w1 ⟨rfl, f1⟩
  have b1 := belowT b0 f1
  go_wp2
  go_ret
  exact ⟨rfl, b1.alloc b1.size _⟩
set_option maxHeartbeats 1000000 in
theorem free_small_run (b : Int) (hb : 0 ≤ b ∧ b ≤ 100000000000000) (hst : 0 ≤ c.step ∧ c.step ≤ 100000000000000) (H : Hid (Calls Try.prog 19 #[(.agg #[.int .i64 c.size, .int .i64 c.pages, .slice c.ca c.cn c.cc, .slice c.ka c.kn c.kc, .int .i64 c.step, .int .i64 c.slots, .int .i64 c.gens, .int .i64 c.most]), .int .i64 s] (w.alloc (.cells #[.int .i64 c.size, .int .i64 c.pages, .slice c.ca c.cn c.cc, .slice c.ka c.kn c.kc, .int .i64 c.step, .int .i64 c.slots, .int .i64 c.gens, .int .i64 c.most] 24)) (ThEnd 1 b 0 0 (w.alloc (.cells #[.int .i64 c.size, .int .i64 c.pages, .slice c.ca c.cn c.cc, .slice c.ka c.kn c.kc, .int .i64 c.step, .int .i64 c.slots, .int .i64 c.gens, .int .i64 c.most] 24))))) :
    Calls Try.prog 9 #[(.agg #[.int .i64 c.size, .int .i64 c.pages, .slice c.ca c.cn c.cc, .slice c.ka c.kn c.kc, .int .i64 c.step, .int .i64 c.slots, .int .i64 c.gens, .int .i64 c.most]), .int .i64 s] w (IB (27 + b + min b c.step) w) := by
  have hmf : ∀ (fn : Fn) (first cap : Array Value) (w : World), (Instr.makeFunc fn first cap).run Try.prog w = .ok (.func fn first cap) w := fun _ _ _ _ => rfl
  have b0 := below1 w (.cells #[.int .i64 c.size, .int .i64 c.pages, .slice c.ca c.cn c.cc, .slice c.ka c.kn c.kc, .int .i64 c.step, .int .i64 c.slots, .int .i64 c.gens, .int .i64 c.most] 24)
  have hm : 0 ≤ min b c.step ∧ min b c.step ≤ 100000000000000 := by omega
  have HT := Lib.hid (fun v g (hg : v.heap.size = g) => tog6 1 2 12 12 b (min b c.step) v g hg ⟨by omega, by omega, by omega, by omega, by omega, by omega, by omega, by omega, hb.1, hb.2, hm.1, hm.2⟩)
  clear hb hst hm
  go_enter Try.func9, Try.ntmps9
  go_wp2_with fail
  refine H.out.mono ?_
  rintro e w1 ⟨rfl, f1⟩
  have b1 := belowT b0 f1
  have xs : (w1.alloc (.cells #[.int .i64 1, .int .i64 b, .int .i64 0, .int .i64 0] 37)).cell? ⟨w.heap.size, 4, none⟩ = some (.int .i64 c.step) := ((f1.alloc f1.size _).cell (p := ⟨w.heap.size, 4, none⟩) (by simp)).trans (by go_simp)
  go_wp2_with fail
  refine (HT.out _ _ ?_).mono ?_
  · simp
  rintro e w2 ⟨rfl, rfl⟩
  go_wp2
  go_ret
  exact ⟨rfl, (b1.alloc b1.size _).alloc (by have := b1.size; simp at this ⊢ <;> omega) _⟩
set_option maxHeartbeats 1000000 in
theorem free_large_run (p d : Int) (hp : 0 ≤ p ∧ p ≤ 2097153) (hd : 0 ≤ d ∧ d ≤ 2097152) (H : Hid (Calls Try.prog 19 #[(.agg #[.int .i64 c.size, .int .i64 c.pages, .slice c.ca c.cn c.cc, .slice c.ka c.kn c.kc, .int .i64 c.step, .int .i64 c.slots, .int .i64 c.gens, .int .i64 c.most]), .int .i64 s] (w.alloc (.cells #[.int .i64 c.size, .int .i64 c.pages, .slice c.ca c.cn c.cc, .slice c.ka c.kn c.kc, .int .i64 c.step, .int .i64 c.slots, .int .i64 c.gens, .int .i64 c.most] 24)) (ThEnd 2 0 p d (w.alloc (.cells #[.int .i64 c.size, .int .i64 c.pages, .slice c.ca c.cn c.cc, .slice c.ka c.kn c.kc, .int .i64 c.step, .int .i64 c.slots, .int .i64 c.gens, .int .i64 c.most] 24))))) :
    Calls Try.prog 9 #[(.agg #[.int .i64 c.size, .int .i64 c.pages, .slice c.ca c.cn c.cc, .slice c.ka c.kn c.kc, .int .i64 c.step, .int .i64 c.slots, .int .i64 c.gens, .int .i64 c.most]), .int .i64 s] w (IB (3 + 4 * p + d) w) := by
  have hmf : ∀ (fn : Fn) (first cap : Array Value) (w : World), (Instr.makeFunc fn first cap).run Try.prog w = .ok (.func fn first cap) w := fun _ _ _ _ => rfl
  have b0 := below1 w (.cells #[.int .i64 c.size, .int .i64 c.pages, .slice c.ca c.cn c.cc, .slice c.ka c.kn c.kc, .int .i64 c.step, .int .i64 c.slots, .int .i64 c.gens, .int .i64 c.most] 24)
  have hw4 : IntKind.i64.wrap (p * 4) = 4 * p := (IntWalk.i64_in _ (by omega)).trans (Int.mul_comm _ _)
  have hw1 : wrap64 d = d := IntWalk.wrap64_in _ (by omega)
  have HT := Lib.hid (fun v g (hg : v.heap.size = g) => tog4 1 2 (4 * p) d v g hg ⟨by omega, by omega, by omega, by omega, by omega, by omega, by omega, by omega⟩)
  clear hp hd
  go_enter Try.func9, Try.ntmps9
  go_wp2_with fail
  refine H.out.mono ?_
  rintro e w1 ⟨rfl, f1⟩
  have b1 := belowT b0 f1
  go_wp2_with fail
  refine (HT.out _ _ ?_).mono ?_
  · simp
  rintro e w2 ⟨rfl, rfl⟩
  go_wp2
  go_ret
  exact ⟨rfl, (b1.alloc b1.size _).alloc (by have := b1.size; simp at this ⊢ <;> omega) _⟩
theorem free_any (hc : c.Ok w w.heap.size) (M : MayC c) (hs : Fit s) : Calls Try.prog 9 #[(.agg #[.int .i64 c.size, .int .i64 c.pages, .slice c.ca c.cn c.cc, .slice c.ka c.kn c.kc, .int .i64 c.step, .int .i64 c.slots, .int .i64 c.gens, .int .i64 c.most]), .int .i64 s] w (IB (freeB c s) w) := by
  rcases what_ways c s (w.alloc (.cells #[.int .i64 c.size, .int .i64 c.pages, .slice c.ca c.cn c.cc, .slice c.ka c.kn c.kc, .int .i64 c.step, .int .i64 c.slots, .int .i64 c.gens, .int .i64 c.most] 24)) (hc.on (below1 w (.cells #[.int .i64 c.size, .int .i64 c.pages, .slice c.ca c.cn c.cc, .slice c.ka c.kn c.kc, .int .i64 c.step, .int .i64 c.slots, .int .i64 c.gens, .int .i64 c.most] 24))) M hs with ⟨ht, HW⟩ | ⟨ht, hsm, HW⟩ | ⟨ht, hsm, HW⟩
  · rw [free_none ht]
    exact free_none_run (Lib.hid HW)
  · obtain ⟨_, b, _, _, _, e, _, z1, z2⟩ := M.block ht hsm
    have hst := M.step
    rw [free_small ht hsm, e]
    rw [e] at HW
    exact free_small_run b (by omega) (by omega) (Lib.hid HW)
  · obtain ⟨m1, m2, a1, a2, p1, p2⟩ := M.wide (s := s) ht
    rw [free_large ht hsm]
    exact free_large_run _ _ ⟨a1, a2⟩ ⟨m1, m2⟩ (Lib.hid HW)
end
end Go.Proofs.Ytpdhlnkdjcghpaa
