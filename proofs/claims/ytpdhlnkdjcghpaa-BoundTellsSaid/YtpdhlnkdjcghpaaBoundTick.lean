/-
  Tick of package bound, and the document's own, met by contracts: the plain 'tickB'; all memory that was there is as it was.
-/
import Derived.Test.YtpdhlnkdjcghpaaBoundTell
import Derived.Test.YtpdhlnkdjcghpaaHeldOff
namespace Go.Proofs.Ytpdhlnkdjcghpaa
open Go.ChangeShapes Go.WideShapes Go.ChangeAt Go.RowKit

section
variable {c : Cf} {w : World}
theorem refTick_any (hc : c.Ok w w.heap.size) (M : MayC c) : Calls Try.prog 12 #[(.agg #[.int .i64 c.size, .int .i64 c.pages, .slice c.ca c.cn c.cc, .slice c.ka c.kn c.kc, .int .i64 c.step, .int .i64 c.slots, .int .i64 c.gens, .int .i64 c.most])] w (IB (tickB c) w) := by
  have hl := hc.classes.len
  have hf := M.few
  have hst := M.step
  have hn : (c.cn : Int) ≤ 16 := by omega
  clear M hc
  unfold tickB
  go_enter Try.func12, Try.ntmps12
  go_wp2
  go_ret
  exact ⟨rfl, below1 _ _⟩
set_option maxHeartbeats 1000000 in
theorem tick_any (hc : c.Ok w w.heap.size) (M : MayC c) : Calls Try.prog 11 #[(.agg #[.int .i64 c.size, .int .i64 c.pages, .slice c.ca c.cn c.cc, .slice c.ka c.kn c.kc, .int .i64 c.step, .int .i64 c.slots, .int .i64 c.gens, .int .i64 c.most])] w (IB (tickB c) w) := by
  have hl := hc.classes.len
  have hf := M.few
  have hst := M.step
  have hn : (c.cn : Int) ≤ 16 := by omega
  have hw : IntKind.i64.wrap ((c.cn : Int) * 10) = 10 * c.cn := (IntWalk.i64_in _ (by omega)).trans (Int.mul_comm _ _)
  have hmax : c.cn ≤ 9223372036854775807 := by omega
  have HT1 : Hid (∀ (v : World) (g : Nat), v.heap.size = g → Calls Try.prog 20 #[.slice (some ⟨g, 0, none⟩) 2 2] (v.alloc (.cells #[.int .i64 6, .int .i64 4] 3)).drew (R1 10 (v.alloc (.cells #[.int .i64 6, .int .i64 4] 3)).drew)) := Lib.hid (fun v g (hg : v.heap.size = g) => tog2d 6 4 v g hg ⟨by omega, by omega, by omega, by omega⟩)
  have HT2 := Lib.hid (fun v g (hg : v.heap.size = g) => tog2d c.step (10 * (c.cn : Int)) v g hg ⟨by omega, by omega, by omega, by omega⟩)
  clear M hc hl hf hst hn
  unfold tickB
  obtain ⟨W, hW⟩ : ∃ W, W = w.alloc (.cells #[.int .i64 c.size, .int .i64 c.pages, .slice c.ca c.cn c.cc, .slice c.ka c.kn c.kc, .int .i64 c.step, .int .i64 c.slots, .int .i64 c.gens, .int .i64 c.most] 24) := ⟨_, rfl⟩
  have bW : Below w.heap.size w W := by rw [hW]; exact below1 _ _
  have hlt : w.heap.size < W.heap.size := by rw [hW]; simp
  have kW : W.cell? ⟨w.heap.size, 4, none⟩ = some (.int .i64 c.step) ∧ W.cell? ⟨w.heap.size, 2, none⟩ = some (.slice c.ca c.cn c.cc) := by rw [hW]; exact ⟨by go_simp, by go_simp⟩
  have KA : Hid (∀ v : World, Below W.heap.size W v → v.cell? ⟨w.heap.size, 4, none⟩ = some (.int .i64 c.step) ∧ v.cell? ⟨w.heap.size, 2, none⟩ = some (.slice c.ca c.cn c.cc)) := Lib.hid fun v hv => ⟨(hv.cell hlt).trans kW.1, (hv.cell hlt).trans kW.2⟩
  have k1 : Hid (∀ o, Below W.heap.size W (W.alloc o).drew) := Lib.hid fun o => belowD (below1 W o)
  have k2 : Hid (∀ o o', Below W.heap.size W ((W.alloc o).alloc o').drew) := Lib.hid fun o o' => belowD (below2 W o o')
  go_enter Try.func11, Try.ntmps11
  go_wp2_with fail
  rw [← hW]
  clear hW hlt
  refine wp_region_held_drew (S := fun v => v.cell? ⟨w.heap.size, 4, none⟩ = some (.int .i64 c.step) ∧ v.cell? ⟨w.heap.size, 2, none⟩ = some (.slice c.ca c.cn c.cc)) (by kernel_rfl) kW (fun hHeld => ?_)
  refine held_on (i := 0) (v := ?_) rfl (by kernel_rfl) (by kernel_rfl) (by kernel_rfl) (fun _ _ _ h => h) ?_ ?_ (by assumption) ?_
  rotate_left 1
  · rfl
  · intro w hSw; (try dsimp only at hSw); go_simp; try with_reducible rfl
  try simp only [Act.put, List.setIfInBounds_toArray, List.set_cons_zero, List.set_cons_succ, List.getElem_toArray, List.getElem_cons_zero]
  refine held_on (i := 1) (v := ?_) rfl (by kernel_rfl) (by kernel_rfl) (by kernel_rfl) (fun _ _ _ h => h) ?_ ?_ (by assumption) ?_
  rotate_left 1
  · rfl
  · intro w hSw; (try dsimp only at hSw); go_simp; try with_reducible rfl
  try simp only [Act.put, List.setIfInBounds_toArray, List.set_cons_zero, List.set_cons_succ, List.getElem_toArray, List.getElem_cons_zero, List.getElem_cons_succ]
  refine held_on (i := 2) (v := ?_) rfl (by kernel_rfl) (by kernel_rfl) (by kernel_rfl) (fun _ _ _ h => h) ?_ ?_ (by assumption) ?_
  rotate_left 1
  · rfl
  · intro w hSw; (try dsimp only at hSw); go_simp; try with_reducible rfl
  try simp only [Act.put, List.setIfInBounds_toArray, List.set_cons_zero, List.set_cons_succ, List.getElem_toArray, List.getElem_cons_zero, List.getElem_cons_succ]
  refine held_on (i := 3) (v := ?_) rfl (by kernel_rfl) (by kernel_rfl) (by kernel_rfl) (fun _ _ _ h => h) ?_ ?_ (by assumption) ?_
  rotate_left 1
  · rfl
  · intro w hSw; (try dsimp only at hSw); go_simp; try with_reducible rfl
  try simp only [Act.put, List.setIfInBounds_toArray, List.set_cons_zero, List.set_cons_succ, List.getElem_toArray, List.getElem_cons_zero, List.getElem_cons_succ]
  refine held_on (i := 4) (v := ?_) rfl (by kernel_rfl) (by kernel_rfl) (by kernel_rfl) (fun _ _ _ h => h) ?_ ?_ (by assumption) ?_
  rotate_left 1
  · rfl
  · intro w hSw; (try dsimp only at hSw); go_simp; try with_reducible rfl
  try simp only [Act.put, List.setIfInBounds_toArray, List.set_cons_zero, List.set_cons_succ, List.getElem_toArray, List.getElem_cons_zero, List.getElem_cons_succ]
  refine wpAnyH_ready (rs := [5]) (by kernel_rfl) (by simp) ?_
  refine AllReadyH.cons rfl (fun K hK => ?_) AllReadyH.nil
  go_simp
  refine hK.out _ _ (KA.out _ (k1.out _)) (fun hHeld2 => ?_)
  clear hK K
  refine wpAnyH_ready (rs := [6]) (by kernel_rfl) (by simp) ?_
  refine AllReadyH.cons rfl (fun K hK => ?_) AllReadyH.nil
  go_simp
  refine (HT1.out _ _ ?_).mono ?_
  · first | rfl | simp
  rintro e w2 ⟨rfl, rfl⟩
  refine hK.out _ _ (KA.out _ (k1.out _)) (fun hHeld3 => ?_)
  clear hK K
  refine held_on (i := 7) (v := ?_) rfl (by kernel_rfl) (by kernel_rfl) (by kernel_rfl) (fun _ _ _ h => h) ?_ ?_ (by assumption) ?_
  rotate_left 1
  · rfl
  · intro w hSw; (try dsimp only at hSw); go_simp; try with_reducible rfl
  try simp only [Act.put, List.setIfInBounds_toArray, List.set_cons_zero, List.set_cons_succ, List.getElem_toArray, List.getElem_cons_zero, List.getElem_cons_succ]
  refine wpAnyH_ready (rs := [8]) (by kernel_rfl) (by simp) ?_
  refine AllReadyH.cons rfl (fun K hK => ?_) AllReadyH.nil
  go_simp
  refine hK.out _ _ (KA.out _ (k2.out _ _)) (fun hHeld4 => ?_)
  clear hK K
  refine wpAnyH_ready (rs := [9]) (by kernel_rfl) (by simp) ?_
  refine AllReadyH.cons rfl (fun K hK => ?_) AllReadyH.nil
  go_simp
  refine (HT2.out _ _ ?_).mono ?_
  · first | rfl | simp
  rintro e w3 ⟨rfl, rfl⟩
  refine hK.out _ _ (KA.out _ (k2.out _ _)) (fun hHeld5 => ?_)
  clear hK K
  refine held_on (i := 10) (v := ?_) rfl (by kernel_rfl) (by kernel_rfl) (by kernel_rfl) (fun _ _ _ h => h) ?_ ?_ (by assumption) ?_
  rotate_left 1
  · rfl
  · intro w hSw; (try dsimp only at hSw); go_simp; try with_reducible rfl
  try simp only [Act.put, List.setIfInBounds_toArray, List.set_cons_zero, List.set_cons_succ, List.getElem_toArray, List.getElem_cons_zero, List.getElem_cons_succ]
  refine wpAnyH_done (by kernel_rfl) ?_ _
  have HF := Lib.hid (bW.trans ((k2.out (.cells #[.int .i64 6, .int .i64 4] 3) (.cells #[.int .i64 c.step, .int .i64 (10 * c.cn)] 3)).mono bW.size))
  go_wp2
  go_ret
  exact ⟨rfl, HF.out⟩
end
end Go.Proofs.Ytpdhlnkdjcghpaa
