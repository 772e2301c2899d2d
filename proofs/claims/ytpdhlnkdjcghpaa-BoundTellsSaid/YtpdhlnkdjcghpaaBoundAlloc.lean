/-
  Alloc of package bound, met by a contract: the plain 'allocB'; all memory that was there is as it was.
-/
import Derived.Test.YtpdhlnkdjcghpaaBoundTell
import Derived.Test.YtpdhlnkdjcghpaaHeldOff
namespace Go.Proofs.Ytpdhlnkdjcghpaa
open Go.ChangeShapes Go.WideShapes Go.ChangeAt Go.RowKit

section
variable {c : Cf} {s : Int} {w : World}
theorem alloc_none_run (H : Hid (Calls Try.prog 19 #[(.agg #[.int .i64 c.size, .int .i64 c.pages, .slice c.ca c.cn c.cc, .slice c.ka c.kn c.kc, .int .i64 c.step, .int .i64 c.slots, .int .i64 c.gens, .int .i64 c.most]), .int .i64 s] (w.alloc (.cells #[.int .i64 c.size, .int .i64 c.pages, .slice c.ca c.cn c.cc, .slice c.ka c.kn c.kc, .int .i64 c.step, .int .i64 c.slots, .int .i64 c.gens, .int .i64 c.most] 24)) (ThEnd 0 0 0 0 (w.alloc (.cells #[.int .i64 c.size, .int .i64 c.pages, .slice c.ca c.cn c.cc, .slice c.ka c.kn c.kc, .int .i64 c.step, .int .i64 c.slots, .int .i64 c.gens, .int .i64 c.most] 24))))) :
    Calls Try.prog 7 #[(.agg #[.int .i64 c.size, .int .i64 c.pages, .slice c.ca c.cn c.cc, .slice c.ka c.kn c.kc, .int .i64 c.step, .int .i64 c.slots, .int .i64 c.gens, .int .i64 c.most]), .int .i64 s] w (IB 0 w) := by
  have hmf : ∀ (fn : Fn) (first cap : Array Value) (w : World), (Instr.makeFunc fn first cap).run Try.prog w = .ok (.func fn first cap) w := fun _ _ _ _ => rfl
  have b0 := below1 w (.cells #[.int .i64 c.size, .int .i64 c.pages, .slice c.ca c.cn c.cc, .slice c.ka c.kn c.kc, .int .i64 c.step, .int .i64 c.slots, .int .i64 c.gens, .int .i64 c.most] 24)
  go_enter Try.func7, Try.ntmps7
  go_wp2_with fail
  refine H.out.mono ?_
  rintro e w1 ⟨rfl, f1⟩
  have b1 := belowT b0 f1
  go_wp2
  go_ret
  exact ⟨rfl, b1.alloc b1.size _⟩
theorem alloc_small_run (b : Int) (hb : 0 ≤ b ∧ b ≤ 100000000000000) (H : Hid (Calls Try.prog 19 #[(.agg #[.int .i64 c.size, .int .i64 c.pages, .slice c.ca c.cn c.cc, .slice c.ka c.kn c.kc, .int .i64 c.step, .int .i64 c.slots, .int .i64 c.gens, .int .i64 c.most]), .int .i64 s] (w.alloc (.cells #[.int .i64 c.size, .int .i64 c.pages, .slice c.ca c.cn c.cc, .slice c.ka c.kn c.kc, .int .i64 c.step, .int .i64 c.slots, .int .i64 c.gens, .int .i64 c.most] 24)) (ThEnd 1 b 0 0 (w.alloc (.cells #[.int .i64 c.size, .int .i64 c.pages, .slice c.ca c.cn c.cc, .slice c.ka c.kn c.kc, .int .i64 c.step, .int .i64 c.slots, .int .i64 c.gens, .int .i64 c.most] 24))))) :
    Calls Try.prog 7 #[(.agg #[.int .i64 c.size, .int .i64 c.pages, .slice c.ca c.cn c.cc, .slice c.ka c.kn c.kc, .int .i64 c.step, .int .i64 c.slots, .int .i64 c.gens, .int .i64 c.most]), .int .i64 s] w (IB (9 + b) w) := by
  have hmf : ∀ (fn : Fn) (first cap : Array Value) (w : World), (Instr.makeFunc fn first cap).run Try.prog w = .ok (.func fn first cap) w := fun _ _ _ _ => rfl
  have b0 := below1 w (.cells #[.int .i64 c.size, .int .i64 c.pages, .slice c.ca c.cn c.cc, .slice c.ka c.kn c.kc, .int .i64 c.step, .int .i64 c.slots, .int .i64 c.gens, .int .i64 c.most] 24)
  have HT := Lib.hid (fun v g (hg : v.heap.size = g) => tog4 2 3 4 b v g hg ⟨by omega, by omega, by omega, by omega, by omega, by omega, hb.1, hb.2⟩)
  clear hb
  go_enter Try.func7, Try.ntmps7
  go_wp2_with fail
  refine H.out.mono ?_
  rintro e w1 ⟨rfl, f1⟩
  have b1 := belowT b0 f1
  go_wp2_with fail
  refine (HT.out _ _ ?_).mono ?_
  · simp
  rintro e w2 ⟨rfl, rfl⟩
  go_wp2
  go_ret
  exact ⟨rfl, (b1.alloc b1.size _).alloc (by have := b1.size; simp at this ⊢ <;> omega) _⟩
set_option maxHeartbeats 1000000 in
theorem alloc_large_run (p d q : Int) (hp : 0 ≤ p ∧ p ≤ 2097153) (hz : 64 ≤ c.size ∧ c.size ≤ 4096) (hq : 0 ≤ q ∧ q ≤ 8594128896) (hw : IntKind.i64.wrap (d * (2 + c.size)) = q) (H : Hid (Calls Try.prog 19 #[(.agg #[.int .i64 c.size, .int .i64 c.pages, .slice c.ca c.cn c.cc, .slice c.ka c.kn c.kc, .int .i64 c.step, .int .i64 c.slots, .int .i64 c.gens, .int .i64 c.most]), .int .i64 s] (w.alloc (.cells #[.int .i64 c.size, .int .i64 c.pages, .slice c.ca c.cn c.cc, .slice c.ka c.kn c.kc, .int .i64 c.step, .int .i64 c.slots, .int .i64 c.gens, .int .i64 c.most] 24)) (ThEnd 2 0 p d (w.alloc (.cells #[.int .i64 c.size, .int .i64 c.pages, .slice c.ca c.cn c.cc, .slice c.ka c.kn c.kc, .int .i64 c.step, .int .i64 c.slots, .int .i64 c.gens, .int .i64 c.most] 24))))) :
    Calls Try.prog 7 #[(.agg #[.int .i64 c.size, .int .i64 c.pages, .slice c.ca c.cn c.cc, .slice c.ka c.kn c.kc, .int .i64 c.step, .int .i64 c.slots, .int .i64 c.gens, .int .i64 c.most]), .int .i64 s] w (IB (2 + 4 * p + q) w) := by
  have hmf : ∀ (fn : Fn) (first cap : Array Value) (w : World), (Instr.makeFunc fn first cap).run Try.prog w = .ok (.func fn first cap) w := fun _ _ _ _ => rfl
  have b0 := below1 w (.cells #[.int .i64 c.size, .int .i64 c.pages, .slice c.ca c.cn c.cc, .slice c.ka c.kn c.kc, .int .i64 c.step, .int .i64 c.slots, .int .i64 c.gens, .int .i64 c.most] 24)
  have hw4 : IntKind.i64.wrap (p * 4) = 4 * p := (IntWalk.i64_in _ (by omega)).trans (Int.mul_comm _ _)
  have HT2 := Lib.hid (fun v g (hg : v.heap.size = g) => tog2d 2 c.size v g hg ⟨by omega, by omega, by omega, by omega⟩)
  have HT3 := Lib.hid (fun v g (hg : v.heap.size = g) => tog3d 2 (4 * p) q v g hg ⟨by omega, by omega, by omega, by omega, by omega, by omega⟩)
  clear hp hq hz
  go_enter Try.func7, Try.ntmps7
  go_wp2_with fail
  refine H.out.mono ?_
  rintro e w1 ⟨rfl, f1⟩
  have b1 := belowT b0 f1
  go_wp2_with fail
  obtain ⟨W, hW⟩ : ∃ W, W = w1.alloc (.cells #[.int .i64 2, .int .i64 0, .int .i64 p, .int .i64 d] 37) := ⟨_, rfl⟩
  have bW : Below w.heap.size w W := by rw [hW]; exact b1.alloc b1.size _
  have X : Cs W w1.heap.size [.int .i64 2, .int .i64 0, .int .i64 p, .int .i64 d] := by rw [hW]; exact Cs.new _ _ _ rfl
  have z : W.cell? ⟨w.heap.size, 0, none⟩ = some (.int .i64 c.size) := by
    rw [hW]
    exact ((f1.alloc f1.size _).cell (p := ⟨w.heap.size, 0, none⟩) (by simp)).trans (by go_simp)
  have hlt : w.heap.size < W.heap.size := by rw [hW]; have := f1.size; simp at this ⊢; omega
  have hl2 := X.size
  rw [← hW]
  clear hW f1 b1 b0 H
  generalize w1.heap.size = g at *
  have kW : W.cell? ⟨g, 2, none⟩ = some (.int .i64 p) ∧ W.cell? ⟨g, 3, none⟩ = some (.int .i64 d) ∧ W.cell? ⟨w.heap.size, 0, none⟩ = some (.int .i64 c.size) := ⟨X.cell 2 _ rfl, X.cell 3 _ rfl, z⟩
  have KA : Hid (∀ v : World, Below W.heap.size W v → v.cell? ⟨g, 2, none⟩ = some (.int .i64 p) ∧ v.cell? ⟨g, 3, none⟩ = some (.int .i64 d) ∧ v.cell? ⟨w.heap.size, 0, none⟩ = some (.int .i64 c.size)) := Lib.hid fun v hv => ⟨(hv.cell hl2).trans kW.1, (hv.cell hl2).trans kW.2.1, (hv.cell hlt).trans kW.2.2⟩
  have k1 : Hid (∀ o, Below W.heap.size W (W.alloc o).drew) := Lib.hid fun o => belowD (below1 W o)
  have k2 : Hid (∀ o o', Below W.heap.size W ((W.alloc o).alloc o').drew) := Lib.hid fun o o' => belowD (below2 W o o')
  clear X z hlt hl2
  refine wp_region_held_drew (S := fun v => v.cell? ⟨g, 2, none⟩ = some (.int .i64 p) ∧ v.cell? ⟨g, 3, none⟩ = some (.int .i64 d) ∧ v.cell? ⟨w.heap.size, 0, none⟩ = some (.int .i64 c.size)) (by kernel_rfl) kW (fun hHeld => ?_)
  refine held_on (i := 0) (v := ?_) rfl (by kernel_rfl) (by kernel_rfl) (by kernel_rfl) (fun _ _ _ h => h) ?_ ?_ (by assumption) ?_
  rotate_left 1
  · rfl
  · intro w hSw; (try dsimp only at hSw); go_simp; try with_reducible rfl
  try simp only [Act.put, List.setIfInBounds_toArray, List.set_cons_zero, List.set_cons_succ, List.getElem_toArray, List.getElem_cons_zero]
  refine held_on (i := 1) (v := ?_) rfl (by kernel_rfl) (by kernel_rfl) (by kernel_rfl) (fun _ _ _ h => h) ?_ ?_ (by assumption) ?_
  rotate_left 1
  · rfl
  · intro w hSw; (try dsimp only at hSw); go_simp; try with_reducible rfl
  try simp only [Act.put, List.setIfInBounds_toArray, List.set_cons_zero, List.set_cons_succ, List.getElem_toArray, List.getElem_cons_zero, List.getElem_cons_succ]
  refine held_on (i := 2) (v := ?_) rfl (by kernel_rfl) (by kernel_rfl) (by kernel_rfl) (fun _ _ _ h => h) ?_ ?_ (by assumption) ?_
  rotate_left 1
  · rfl
  · intro w hSw; (try dsimp only at hSw); go_simp; try with_reducible rfl
  try simp only [Act.put, List.setIfInBounds_toArray, List.set_cons_zero, List.set_cons_succ, List.getElem_toArray, List.getElem_cons_zero, List.getElem_cons_succ]
  refine held_on (i := 3) (v := ?_) rfl (by kernel_rfl) (by kernel_rfl) (by kernel_rfl) (fun _ _ _ h => h) ?_ ?_ (by assumption) ?_
  rotate_left 1
  · rfl
  · intro w hSw; (try dsimp only at hSw); go_simp; try with_reducible rfl
  try simp only [Act.put, List.setIfInBounds_toArray, List.set_cons_zero, List.set_cons_succ, List.getElem_toArray, List.getElem_cons_zero, List.getElem_cons_succ]
  refine held_on (i := 4) (v := ?_) rfl (by kernel_rfl) (by kernel_rfl) (by kernel_rfl) (fun _ _ _ h => h) ?_ ?_ (by assumption) ?_
  rotate_left 1
  · rfl
  · intro w hSw; (try dsimp only at hSw); go_simp; try with_reducible rfl
  try simp only [Act.put, List.setIfInBounds_toArray, List.set_cons_zero, List.set_cons_succ, List.getElem_toArray, List.getElem_cons_zero, List.getElem_cons_succ]
  refine held_on (i := 5) (v := ?_) rfl (by kernel_rfl) (by kernel_rfl) (by kernel_rfl) (fun _ _ _ h => h) ?_ ?_ (by assumption) ?_
  rotate_left 1
  · rfl
  · intro w hSw; (try dsimp only at hSw); go_simp; try with_reducible rfl
  try simp only [Act.put, List.setIfInBounds_toArray, List.set_cons_zero, List.set_cons_succ, List.getElem_toArray, List.getElem_cons_zero, List.getElem_cons_succ]
  refine held_on (i := 6) (v := ?_) rfl (by kernel_rfl) (by kernel_rfl) (by kernel_rfl) (fun _ _ _ h => h) ?_ ?_ (by assumption) ?_
  rotate_left 1
  · rfl
  · intro w hSw; (try dsimp only at hSw); go_simp; try with_reducible rfl
  try simp only [Act.put, List.setIfInBounds_toArray, List.set_cons_zero, List.set_cons_succ, List.getElem_toArray, List.getElem_cons_zero, List.getElem_cons_succ]
  refine wpAnyH_ready (rs := [7]) (by kernel_rfl) (by simp) ?_
  refine AllReadyH.cons rfl (fun K hK => ?_) AllReadyH.nil
  go_simp
  refine hK.out _ _ (KA.out _ (k1.out _)) (fun hHeld2 => ?_)
  clear hK K
  refine wpAnyH_ready (rs := [8]) (by kernel_rfl) (by simp) ?_
  refine AllReadyH.cons rfl (fun K hK => ?_) AllReadyH.nil
  go_simp
  refine (HT2.out _ _ ?_).mono ?_
  · first | rfl | simp
  rintro e w2 ⟨rfl, rfl⟩
  refine hK.out _ _ (KA.out _ (k1.out _)) (fun hHeld3 => ?_)
  clear hK K
  refine held_on (i := 9) (v := ?_) rfl (by kernel_rfl) (by kernel_rfl) (by kernel_rfl) (fun _ _ _ h => h) ?_ ?_ (by assumption) ?_
  rotate_left 1
  · rfl
  · intro w hSw; (try dsimp only at hSw); go_simp; try with_reducible rfl
  try simp only [Act.put, List.setIfInBounds_toArray, List.set_cons_zero, List.set_cons_succ, List.getElem_toArray, List.getElem_cons_zero, List.getElem_cons_succ]
  refine wpAnyH_ready (rs := [10]) (by kernel_rfl) (by simp) ?_
  refine AllReadyH.cons rfl (fun K hK => ?_) AllReadyH.nil
  go_simp
  refine hK.out _ _ (KA.out _ (k2.out _ _)) (fun hHeld4 => ?_)
  clear hK K
  refine wpAnyH_ready (rs := [11]) (by kernel_rfl) (by simp) ?_
  refine AllReadyH.cons rfl (fun K hK => ?_) AllReadyH.nil
  go_simp
  refine (HT3.out _ _ ?_).mono ?_
  · first | rfl | simp
  rintro e w3 ⟨rfl, rfl⟩
  refine hK.out _ _ (KA.out _ (k2.out _ _)) (fun hHeld5 => ?_)
  clear hK K
  refine held_on (i := 12) (v := ?_) rfl (by kernel_rfl) (by kernel_rfl) (by kernel_rfl) (fun _ _ _ h => h) ?_ ?_ (by assumption) ?_
  rotate_left 1
  · rfl
  · intro w hSw; (try dsimp only at hSw); go_simp; try with_reducible rfl
  try simp only [Act.put, List.setIfInBounds_toArray, List.set_cons_zero, List.set_cons_succ, List.getElem_toArray, List.getElem_cons_zero, List.getElem_cons_succ]
  refine wpAnyH_done (by kernel_rfl) ?_ _
  have HF := Lib.hid (bW.trans ((k2.out (.cells #[.int .i64 2, .int .i64 c.size] 3) (.cells #[.int .i64 2, .int .i64 (4 * p), .int .i64 q] 3)).mono bW.size))
  go_wp2
  go_ret
  exact ⟨rfl, HF.out⟩
theorem alloc_any (hc : c.Ok w w.heap.size) (M : MayC c) (hs : Fit s) : Calls Try.prog 7 #[(.agg #[.int .i64 c.size, .int .i64 c.pages, .slice c.ca c.cn c.cc, .slice c.ka c.kn c.kc, .int .i64 c.step, .int .i64 c.slots, .int .i64 c.gens, .int .i64 c.most]), .int .i64 s] w (IB (allocB c s) w) := by
  rcases what_ways c s (w.alloc (.cells #[.int .i64 c.size, .int .i64 c.pages, .slice c.ca c.cn c.cc, .slice c.ka c.kn c.kc, .int .i64 c.step, .int .i64 c.slots, .int .i64 c.gens, .int .i64 c.most] 24)) (hc.on (below1 w (.cells #[.int .i64 c.size, .int .i64 c.pages, .slice c.ca c.cn c.cc, .slice c.ka c.kn c.kc, .int .i64 c.step, .int .i64 c.slots, .int .i64 c.gens, .int .i64 c.most] 24))) M hs with ⟨ht, HW⟩ | ⟨ht, hsm, HW⟩ | ⟨ht, hsm, HW⟩
  · rw [alloc_none ht]
    exact alloc_none_run (Lib.hid HW)
  · obtain ⟨_, b, _, _, _, e, _, z1, z2⟩ := M.block ht hsm
    rw [alloc_small ht hsm, e]
    rw [e] at HW
    exact alloc_small_run b (by omega) (Lib.hid HW)
  · obtain ⟨m1, m2, a1, a2, p1, p2⟩ := M.wide (s := s) ht
    obtain ⟨l1, l2, l3⟩ := M.large
    rw [alloc_large ht hsm]
    exact alloc_large_run _ _ _ ⟨a1, a2⟩ ⟨l1, l2⟩ ⟨p1, p2⟩ (by rw [Int.mul_comm]; exact IntWalk.i64_in _ (by omega)) (Lib.hid HW)
end
end Go.Proofs.Ytpdhlnkdjcghpaa
