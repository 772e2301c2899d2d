/-
  Resize of package bound, met by a contract: the plain 'resizeB'; all memory that was there is as it was.
-/
import Derived.Test.YtpdhlnkdjcghpaaBoundAlloc
import Derived.Test.YtpdhlnkdjcghpaaBoundFree
namespace Go.Proofs.Ytpdhlnkdjcghpaa
open Go.ChangeShapes Go.WideShapes Go.ChangeAt Go.RowKit

section
variable {c : Cf} {o s : Int} {w : World}
theorem resize_none_run (k b p d k' b' p' d' : Int) (h : k = 0 ∨ k' = 0) (H1 : Hid (Calls Try.prog 19 #[(.agg #[.int .i64 c.size, .int .i64 c.pages, .slice c.ca c.cn c.cc, .slice c.ka c.kn c.kc, .int .i64 c.step, .int .i64 c.slots, .int .i64 c.gens, .int .i64 c.most]), .int .i64 o] (w.alloc (.cells #[.int .i64 c.size, .int .i64 c.pages, .slice c.ca c.cn c.cc, .slice c.ka c.kn c.kc, .int .i64 c.step, .int .i64 c.slots, .int .i64 c.gens, .int .i64 c.most] 24)) (ThEnd k b p d (w.alloc (.cells #[.int .i64 c.size, .int .i64 c.pages, .slice c.ca c.cn c.cc, .slice c.ka c.kn c.kc, .int .i64 c.step, .int .i64 c.slots, .int .i64 c.gens, .int .i64 c.most] 24))))) (H2 : Hid (∀ v, Below w.heap.size w v → Calls Try.prog 19 #[(.agg #[.int .i64 c.size, .int .i64 c.pages, .slice c.ca c.cn c.cc, .slice c.ka c.kn c.kc, .int .i64 c.step, .int .i64 c.slots, .int .i64 c.gens, .int .i64 c.most]), .int .i64 s] v (ThEnd k' b' p' d' v))) :
    Calls Try.prog 15 #[(.agg #[.int .i64 c.size, .int .i64 c.pages, .slice c.ca c.cn c.cc, .slice c.ka c.kn c.kc, .int .i64 c.step, .int .i64 c.slots, .int .i64 c.gens, .int .i64 c.most]), .int .i64 o, .int .i64 s] w (IB 0 w) := by
  have hmf : ∀ (fn : Fn) (first cap : Array Value) (w : World), (Instr.makeFunc fn first cap).run Try.prog w = .ok (.func fn first cap) w := fun _ _ _ _ => rfl
  have hfd : ∀ (x1 x2 x3 x4 : Int) (w : World), (Instr.field 37 (.agg #[.int .i64 x1, .int .i64 x2, .int .i64 x3, .int .i64 x4]) 0).run Try.prog w = .ok (.int .i64 x1) w := fun _ _ _ _ _ => by rfl
  have b0 := below1 w (.cells #[.int .i64 c.size, .int .i64 c.pages, .slice c.ca c.cn c.cc, .slice c.ka c.kn c.kc, .int .i64 c.step, .int .i64 c.slots, .int .i64 c.gens, .int .i64 c.most] 24)
  by_cases h0 : k = 0
  · subst h0
    clear h H2
    go_enter Try.func15, Try.ntmps15
    go_wp2_with fail
    refine H1.out.mono ?_
    rintro e w1 ⟨rfl, f1⟩
    have b1 := belowT b0 f1
    go_wp2
    go_ret
    exact ⟨rfl, b1⟩
  · have e0 : (k == 0) = false := by simpa using h0
    obtain rfl : k' = 0 := by omega
    clear h h0
    go_enter Try.func15, Try.ntmps15
    go_wp2_with fail
    refine H1.out.mono ?_
    rintro e w1 ⟨rfl, f1⟩
    have b1 := belowT b0 f1
    go_wp2_with fail
    refine (H2.out _ b1).mono ?_
    rintro e w2 ⟨rfl, f2⟩
    have b2 := belowT b1 f2
    go_wp2
    go_ret
    exact ⟨rfl, b2⟩
set_option maxHeartbeats 2000000 in
theorem resize_both_run (k b p d k' b' p' d' A F m m' : Int) (h1 : k ≠ 0) (h2 : k' ≠ 0) (ho : 0 ≤ o ∧ o ≤ 2097152) (hA : 0 ≤ A ∧ A ≤ 9000000000) (hF : 0 ≤ F ∧ F ≤ 9000000000) (hm : 0 ≤ m ∧ m ≤ 2097152) (hm' : 0 ≤ m' ∧ m' ≤ 2097152)
    (H1 : Hid (Calls Try.prog 19 #[(.agg #[.int .i64 c.size, .int .i64 c.pages, .slice c.ca c.cn c.cc, .slice c.ka c.kn c.kc, .int .i64 c.step, .int .i64 c.slots, .int .i64 c.gens, .int .i64 c.most]), .int .i64 o] (w.alloc (.cells #[.int .i64 c.size, .int .i64 c.pages, .slice c.ca c.cn c.cc, .slice c.ka c.kn c.kc, .int .i64 c.step, .int .i64 c.slots, .int .i64 c.gens, .int .i64 c.most] 24)) (ThEnd k b p d (w.alloc (.cells #[.int .i64 c.size, .int .i64 c.pages, .slice c.ca c.cn c.cc, .slice c.ka c.kn c.kc, .int .i64 c.step, .int .i64 c.slots, .int .i64 c.gens, .int .i64 c.most] 24))))) (H2 : Hid (∀ v, Below w.heap.size w v → Calls Try.prog 19 #[(.agg #[.int .i64 c.size, .int .i64 c.pages, .slice c.ca c.cn c.cc, .slice c.ka c.kn c.kc, .int .i64 c.step, .int .i64 c.slots, .int .i64 c.gens, .int .i64 c.most]), .int .i64 s] v (ThEnd k' b' p' d' v)))
    (HD : Hid (∀ v, Calls Try.prog 26 #[.int .i64 o, .int .i64 c.size] v (F2 m v))) (HE : Hid (∀ v, Calls Try.prog 26 #[.int .i64 s, .int .i64 c.size] v (F2 m' v)))
    (HA : Hid (∀ v, Below w.heap.size w v → Calls Try.prog 7 #[(.agg #[.int .i64 c.size, .int .i64 c.pages, .slice c.ca c.cn c.cc, .slice c.ka c.kn c.kc, .int .i64 c.step, .int .i64 c.slots, .int .i64 c.gens, .int .i64 c.most]), .int .i64 s] v (IB A v))) (HF : Hid (∀ v, Below w.heap.size w v → Calls Try.prog 9 #[(.agg #[.int .i64 c.size, .int .i64 c.pages, .slice c.ca c.cn c.cc, .slice c.ka c.kn c.kc, .int .i64 c.step, .int .i64 c.slots, .int .i64 c.gens, .int .i64 c.most]), .int .i64 o] v (IB F v))) :
    Calls Try.prog 15 #[(.agg #[.int .i64 c.size, .int .i64 c.pages, .slice c.ca c.cn c.cc, .slice c.ka c.kn c.kc, .int .i64 c.step, .int .i64 c.slots, .int .i64 c.gens, .int .i64 c.most]), .int .i64 o, .int .i64 s] w (IB (A + F + 3 * o + (m + m' + 4)) w) := by
  have hmf : ∀ (fn : Fn) (first cap : Array Value) (w : World), (Instr.makeFunc fn first cap).run Try.prog w = .ok (.func fn first cap) w := fun _ _ _ _ => rfl
  have hfd : ∀ (x1 x2 x3 x4 : Int) (w : World), (Instr.field 37 (.agg #[.int .i64 x1, .int .i64 x2, .int .i64 x3, .int .i64 x4]) 0).run Try.prog w = .ok (.int .i64 x1) w := fun _ _ _ _ _ => by rfl
  have b0 := below1 w (.cells #[.int .i64 c.size, .int .i64 c.pages, .slice c.ca c.cn c.cc, .slice c.ka c.kn c.kc, .int .i64 c.step, .int .i64 c.slots, .int .i64 c.gens, .int .i64 c.most] 24)
  have e1 : (k == 0) = false := by simpa using h1
  have e2 : (k' == 0) = false := by simpa using h2
  have hw1 : IntKind.i64.wrap (m + m' + 4) = m + m' + 4 := IntWalk.i64_in _ (by omega)
  have hw3 : IntKind.i64.wrap (3 * o) = 3 * o := IntWalk.i64_in _ (by omega)
  have HT3 := Lib.hid (fun v g (hg : v.heap.size = g) => tog3 m m' 4 v g hg ⟨by omega, by omega, by omega, by omega, by omega, by omega⟩)
  have HT4 := Lib.hid (fun v g (hg : v.heap.size = g) => tog4 A F (IntKind.i64.wrap (3 * o)) (IntKind.i64.wrap (m + m' + 4)) v g hg ⟨by omega, by omega, by omega, by omega, by omega, by omega, by omega, by omega⟩)
  rw [← hw1, ← hw3]
  clear h1 h2 ho hA hF hm hm' hw1 hw3
  generalize m + m' + 4 = q at *
  go_enter Try.func15, Try.ntmps15
  go_wp2_with fail
  refine H1.out.mono ?_
  rintro e w1 ⟨rfl, f1⟩
  have b1 := belowT b0 f1
  have X1 := (Boxed.new w c).on f1
  clear f1 b0 H1
  go_wp2_with fail
  refine (H2.out _ b1).mono ?_
  rintro e w2 ⟨rfl, f2⟩
  have b2 := belowT b1 f2
  have X2 := X1.on f2
  clear f2 b1 X1 H2
  go_wp2_with fail
  have X2' := X2
  have ⟨x0, x1, x2, x3, x4, x5, x6, x7, x8⟩ := X2'
  refine wp_region_held_drew (S := fun v => v.cell? ⟨w.heap.size, 0, none⟩ = some (.int .i64 c.size)) (by kernel_rfl) x0 (fun hHeld => ?_)
  refine held_on (i := 0) (v := ?_) rfl (by kernel_rfl) (by kernel_rfl) (by kernel_rfl) (fun _ _ _ h => h) ?_ ?_ (by assumption) ?_
  rotate_left 1
  · rfl
  · intro w hSw; (try dsimp only at hSw); go_simp; try with_reducible rfl
  try simp only [Act.put, List.setIfInBounds_toArray, List.set_cons_zero, List.set_cons_succ, List.getElem_toArray, List.getElem_cons_zero]
  refine held_on (i := 1) (v := ?_) rfl (by kernel_rfl) (by kernel_rfl) (by kernel_rfl) (fun _ _ _ h => h) ?_ ?_ (by assumption) ?_
  rotate_left 1
  · rfl
  · intro w hSw; (try dsimp only at hSw); go_simp; try with_reducible rfl
  try simp only [Act.put, List.setIfInBounds_toArray, List.set_cons_zero, List.set_cons_succ, List.getElem_toArray, List.getElem_cons_zero, List.getElem_cons_succ]
  refine held_on (i := 2) (v := ?_) rfl (by kernel_rfl) (by kernel_rfl) (by kernel_rfl) (fun _ _ _ h => h) ?_ ?_ (by assumption) ?_
  rotate_left 1
  · rfl
  · intro w hSw; (try dsimp only at hSw); go_simp; try with_reducible rfl
  try simp only [Act.put, List.setIfInBounds_toArray, List.set_cons_zero, List.set_cons_succ, List.getElem_toArray, List.getElem_cons_zero, List.getElem_cons_succ]
  refine held_on (i := 4) (v := ?_) rfl (by kernel_rfl) (by kernel_rfl) (by kernel_rfl) (fun _ _ _ h => h) ?_ ?_ (by assumption) ?_
  rotate_left 1
  · rfl
  · intro w hSw; (try dsimp only at hSw); go_simp; try with_reducible rfl
  try simp only [Act.put, List.setIfInBounds_toArray, List.set_cons_zero, List.set_cons_succ, List.getElem_toArray, List.getElem_cons_zero, List.getElem_cons_succ]
  refine held_on (i := 5) (v := ?_) rfl (by kernel_rfl) (by kernel_rfl) (by kernel_rfl) (fun _ _ _ h => h) ?_ ?_ (by assumption) ?_
  rotate_left 1
  · rfl
  · intro w hSw; (try dsimp only at hSw); go_simp; try with_reducible rfl
  try simp only [Act.put, List.setIfInBounds_toArray, List.set_cons_zero, List.set_cons_succ, List.getElem_toArray, List.getElem_cons_zero, List.getElem_cons_succ]
  refine held_on (i := 6) (v := ?_) rfl (by kernel_rfl) (by kernel_rfl) (by kernel_rfl) (fun _ _ _ h => h) ?_ ?_ (by assumption) ?_
  rotate_left 1
  · rfl
  · intro w hSw; (try dsimp only at hSw); go_simp; try with_reducible rfl
  try simp only [Act.put, List.setIfInBounds_toArray, List.set_cons_zero, List.set_cons_succ, List.getElem_toArray, List.getElem_cons_zero, List.getElem_cons_succ]
  refine wpAnyH_ready (rs := [3]) (by kernel_rfl) (by simp) ?_
  refine AllReadyH.cons rfl (fun K hK => ?_) AllReadyH.nil
  go_simp
  refine (HD.out _).mono ?_
  rintro e w3 ⟨rfl, f3⟩
  have c3 : Below w2.heap.size w2 w3 := belowT (belowD (Below.refl _ _)) f3.below
  refine hK.out _ _ ((c3.cell (p := ⟨w.heap.size, 0, none⟩) x8).trans x0) (fun hHeld2 => ?_)
  clear hK K f3
  refine wpAnyH_ready (rs := [7]) (by kernel_rfl) (by simp) ?_
  refine AllReadyH.cons rfl (fun K hK => ?_) AllReadyH.nil
  go_simp
  refine (HE.out _).mono ?_
  rintro e w4 ⟨rfl, f4⟩
  have c4 : Below w2.heap.size w2 w4 := belowT c3 f4.below
  refine hK.out _ _ ((c4.cell (p := ⟨w.heap.size, 0, none⟩) x8).trans x0) (fun hHeld3 => ?_)
  clear hK K f4 c3
  refine wpAnyH_ready (rs := [8]) (by kernel_rfl) (by simp) ?_
  refine AllReadyH.cons rfl (fun K hK => ?_) AllReadyH.nil
  go_simp
  have c5 : Below w2.heap.size w2 (w4.alloc (.cells #[.int .i64 m, .int .i64 m', .int .i64 4] 3)) := c4.alloc c4.size _
  refine hK.out _ _ ((c5.cell (p := ⟨w.heap.size, 0, none⟩) x8).trans x0) (fun hHeld4 => ?_)
  clear hK K
  refine wpAnyH_ready (rs := [9]) (by kernel_rfl) (by simp) ?_
  refine AllReadyH.cons rfl (fun K hK => ?_) AllReadyH.nil
  go_simp
  refine (HT3.out _ _ ?_).mono ?_
  · first | rfl | simp
  rintro e w5 ⟨rfl, rfl⟩
  refine hK.out _ _ ((c5.cell (p := ⟨w.heap.size, 0, none⟩) x8).trans x0) (fun hHeld5 => ?_)
  clear hK K
  refine held_on (i := 10) (v := ?_) rfl (by kernel_rfl) (by kernel_rfl) (by kernel_rfl) (fun _ _ _ h => h) ?_ ?_ (by assumption) ?_
  rotate_left 1
  · rfl
  · intro w hSw; (try dsimp only at hSw); go_simp; try with_reducible rfl
  try simp only [Act.put, List.setIfInBounds_toArray, List.set_cons_zero, List.set_cons_succ, List.getElem_toArray, List.getElem_cons_zero, List.getElem_cons_succ]
  refine wpAnyH_done (by kernel_rfl) ?_ _
  have b5 := belowT b2 c5
  have X5 := X2.on c5
  clear c4 c5 b2 X2 hHeld hHeld2 hHeld3 hHeld4 hHeld5 x0 x1 x2 x3 x4 x5 x6 x7 x8 HD HE HT3
  generalize w4.alloc (.cells #[.int .i64 m, .int .i64 m', .int .i64 4] 3) = W at *
  have X5' := X5
  have ⟨x0, x1, x2, x3, x4, x5, x6, x7, x8⟩ := X5'
  go_wp2_with fail
  refine wp_region_held_drew (S := (fun w' => w'.cell? ⟨w.heap.size, 0, none⟩ = some (.int .i64 c.size) ∧ w'.cell? ⟨w.heap.size, 1, none⟩ = some (.int .i64 c.pages) ∧
        w'.cell? ⟨w.heap.size, 2, none⟩ = some (.slice c.ca c.cn c.cc) ∧ w'.cell? ⟨w.heap.size, 3, none⟩ = some (.slice c.ka c.kn c.kc) ∧
        w'.cell? ⟨w.heap.size, 4, none⟩ = some (.int .i64 c.step) ∧ w'.cell? ⟨w.heap.size, 5, none⟩ = some (.int .i64 c.slots) ∧
        w'.cell? ⟨w.heap.size, 6, none⟩ = some (.int .i64 c.gens) ∧ w'.cell? ⟨w.heap.size, 7, none⟩ = some (.int .i64 c.most))) (by kernel_rfl) ⟨x0, x1, x2, x3, x4, x5, x6, x7⟩ (fun hHeld => ?_)
  refine held_on (i := 0) (v := ?_) rfl (by kernel_rfl) (by kernel_rfl) (by kernel_rfl) (fun _ _ _ h => h) ?_ ?_ (by assumption) ?_
  rotate_left 1
  · rfl
  · intro w hSw; (try dsimp only at hSw); go_simp; try with_reducible rfl
  try simp only [Act.put, List.setIfInBounds_toArray, List.set_cons_zero, List.set_cons_succ, List.getElem_toArray, List.getElem_cons_zero]
  refine held_on (i := 1) (v := ?_) rfl (by kernel_rfl) (by kernel_rfl) (by kernel_rfl) (fun _ _ _ h => h) ?_ ?_ (by assumption) ?_
  rotate_left 1
  · rfl
  · intro w hSw; (try dsimp only at hSw); go_simp; try with_reducible rfl
  try simp only [Act.put, List.setIfInBounds_toArray, List.set_cons_zero, List.set_cons_succ, List.getElem_toArray, List.getElem_cons_zero, List.getElem_cons_succ]
  refine held_on (i := 3) (v := ?_) rfl (by kernel_rfl) (by kernel_rfl) (by kernel_rfl) (fun _ _ _ h => h) ?_ ?_ (by assumption) ?_
  rotate_left 1
  · rfl
  · intro w hSw; (try dsimp only at hSw); go_simp; try with_reducible rfl
  try simp only [Act.put, List.setIfInBounds_toArray, List.set_cons_zero, List.set_cons_succ, List.getElem_toArray, List.getElem_cons_zero, List.getElem_cons_succ]
  refine held_on (i := 4) (v := ?_) rfl (by kernel_rfl) (by kernel_rfl) (by kernel_rfl) (fun _ _ _ h => h) ?_ ?_ (by assumption) ?_
  rotate_left 1
  · rfl
  · intro w hSw; (try dsimp only at hSw); go_simp; try with_reducible rfl
  try simp only [Act.put, List.setIfInBounds_toArray, List.set_cons_zero, List.set_cons_succ, List.getElem_toArray, List.getElem_cons_zero, List.getElem_cons_succ]
  refine held_on (i := 6) (v := ?_) rfl (by kernel_rfl) (by kernel_rfl) (by kernel_rfl) (fun _ _ _ h => h) ?_ ?_ (by assumption) ?_
  rotate_left 1
  · rfl
  · intro w hSw; (try dsimp only at hSw); go_simp; try with_reducible rfl
  try simp only [Act.put, List.setIfInBounds_toArray, List.set_cons_zero, List.set_cons_succ, List.getElem_toArray, List.getElem_cons_zero, List.getElem_cons_succ]
  refine held_on (i := 7) (v := ?_) rfl (by kernel_rfl) (by kernel_rfl) (by kernel_rfl) (fun _ _ _ h => h) ?_ ?_ (by assumption) ?_
  rotate_left 1
  · rfl
  · intro w hSw; (try dsimp only at hSw); go_simp; try with_reducible rfl
  try simp only [Act.put, List.setIfInBounds_toArray, List.set_cons_zero, List.set_cons_succ, List.getElem_toArray, List.getElem_cons_zero, List.getElem_cons_succ]
  refine held_on (i := 8) (v := ?_) rfl (by kernel_rfl) (by kernel_rfl) (by kernel_rfl) (fun _ _ _ h => h) ?_ ?_ (by assumption) ?_
  rotate_left 1
  · rfl
  · intro w hSw; (try dsimp only at hSw); go_simp; try with_reducible rfl
  try simp only [Act.put, List.setIfInBounds_toArray, List.set_cons_zero, List.set_cons_succ, List.getElem_toArray, List.getElem_cons_zero, List.getElem_cons_succ]
  refine held_on (i := 9) (v := ?_) rfl (by kernel_rfl) (by kernel_rfl) (by kernel_rfl) (fun _ _ _ h => h) ?_ ?_ (by assumption) ?_
  rotate_left 1
  · rfl
  · intro w hSw; (try dsimp only at hSw); go_simp; try with_reducible rfl
  try simp only [Act.put, List.setIfInBounds_toArray, List.set_cons_zero, List.set_cons_succ, List.getElem_toArray, List.getElem_cons_zero, List.getElem_cons_succ]
  refine wpAnyH_ready (rs := [2]) (by kernel_rfl) (by simp) ?_
  refine AllReadyH.cons rfl (fun K hK => ?_) AllReadyH.nil
  go_simp
  refine (HA.out _ (belowD b5)).mono ?_
  rintro e w6 ⟨rfl, f6⟩
  have c6 : Below W.heap.size W w6 := belowT (belowD (Below.refl _ _)) f6
  refine hK.out _ _ (keep8 c6 x8 ⟨x0, x1, x2, x3, x4, x5, x6, x7⟩) (fun hHeld2 => ?_)
  clear hK K f6
  refine wpAnyH_ready (rs := [5]) (by kernel_rfl) (by simp) ?_
  refine AllReadyH.cons rfl (fun K hK => ?_) AllReadyH.nil
  go_simp
  refine (HF.out _ (belowT b5 c6)).mono ?_
  rintro e w7 ⟨rfl, f7⟩
  have c7 : Below W.heap.size W w7 := belowT c6 f7
  refine hK.out _ _ (keep8 c7 x8 ⟨x0, x1, x2, x3, x4, x5, x6, x7⟩) (fun hHeld3 => ?_)
  clear hK K f7 c6
  refine wpAnyH_ready (rs := [10]) (by kernel_rfl) (by simp) ?_
  refine AllReadyH.cons rfl (fun K hK => ?_) AllReadyH.nil
  go_simp
  have c8 : Below W.heap.size W (w7.alloc (.cells #[.int .i64 A, .int .i64 F, .int .i64 (IntKind.i64.wrap (3 * o)), .int .i64 (IntKind.i64.wrap q)] 3)) := c7.alloc c7.size _
  refine hK.out _ _ (keep8 c8 x8 ⟨x0, x1, x2, x3, x4, x5, x6, x7⟩) (fun hHeld4 => ?_)
  clear hK K
  refine wpAnyH_ready (rs := [11]) (by kernel_rfl) (by simp) ?_
  refine AllReadyH.cons rfl (fun K hK => ?_) AllReadyH.nil
  go_simp
  refine (HT4.out _ _ ?_).mono ?_
  · first | rfl | simp
  rintro e w8 ⟨rfl, rfl⟩
  refine hK.out _ _ (keep8 c8 x8 ⟨x0, x1, x2, x3, x4, x5, x6, x7⟩) (fun hHeld5 => ?_)
  clear hK K
  refine held_on (i := 12) (v := ?_) rfl (by kernel_rfl) (by kernel_rfl) (by kernel_rfl) (fun _ _ _ h => h) ?_ ?_ (by assumption) ?_
  rotate_left 1
  · rfl
  · intro w hSw; (try dsimp only at hSw); go_simp; try with_reducible rfl
  try simp only [Act.put, List.setIfInBounds_toArray, List.set_cons_zero, List.set_cons_succ, List.getElem_toArray, List.getElem_cons_zero, List.getElem_cons_succ]
  refine wpAnyH_done (by kernel_rfl) ?_ _
  have HB := Lib.hid (belowT b5 c8)
  clear c7 c8 b5 hHeld hHeld2 hHeld3 hHeld4 hHeld5
  go_wp2
  go_ret
  exact ⟨rfl, HB.out⟩
theorem resize_any (hc : c.Ok w w.heap.size) (M : MayC c) (ho : Fit o) (hs : Fit s) : Calls Try.prog 15 #[(.agg #[.int .i64 c.size, .int .i64 c.pages, .slice c.ca c.cn c.cc, .slice c.ka c.kn c.kc, .int .i64 c.step, .int .i64 c.slots, .int .i64 c.gens, .int .i64 c.most]), .int .i64 o, .int .i64 s] w (IB (resizeB c o s) w) := by
  have hl := M.large
  have bw := below1 w (.cells #[.int .i64 c.size, .int .i64 c.pages, .slice c.ca c.cn c.cc, .slice c.ka c.kn c.kc, .int .i64 c.step, .int .i64 c.slots, .int .i64 c.gens, .int .i64 c.most] 24)
  have kind : ∀ (x : Int) (v : World), c.Ok v v.heap.size → Fit x → (isT c x = false ∧ Calls Try.prog 19 #[(.agg #[.int .i64 c.size, .int .i64 c.pages, .slice c.ca c.cn c.cc, .slice c.ka c.kn c.kc, .int .i64 c.step, .int .i64 c.slots, .int .i64 c.gens, .int .i64 c.most]), .int .i64 x] v (ThEnd 0 0 0 0 v)) ∨ (isT c x = true ∧ ∃ k b p d, k ≠ 0 ∧ (∀ v, c.Ok v v.heap.size → Calls Try.prog 19 #[(.agg #[.int .i64 c.size, .int .i64 c.pages, .slice c.ca c.cn c.cc, .slice c.ka c.kn c.kc, .int .i64 c.step, .int .i64 c.slots, .int .i64 c.gens, .int .i64 c.most]), .int .i64 x] v (ThEnd k b p d v))) := by
    intro x v hv hx
    cases ht : isT c x with
    | false => exact .inl ⟨rfl, what_none c x v ht⟩
    | true =>
      by_cases h : x ≤ small c
      · exact .inr ⟨rfl, 1, _, _, _, by omega, fun v hv => what_small c x v hv M ht h⟩
      · exact .inr ⟨rfl, 2, _, _, _, by omega, fun v hv => what_large c x v hv ht h hx.2⟩
  have oks : ∀ v, Below w.heap.size w v → c.Ok v v.heap.size := fun v hv => hc.on hv
  rcases kind o (w.alloc (.cells #[.int .i64 c.size, .int .i64 c.pages, .slice c.ca c.cn c.cc, .slice c.ka c.kn c.kc, .int .i64 c.step, .int .i64 c.slots, .int .i64 c.gens, .int .i64 c.most] 24)) (oks _ bw) ho with ⟨to, HO⟩ | ⟨to, k, b, p, d, hk, HO⟩
  · rw [show resizeB c o s = 0 by unfold resizeB; rw [to]; rfl]
    cases ts : isT c s with
    | false => exact resize_none_run _ _ _ _ _ _ _ _ (.inl rfl) (Lib.hid HO) (Lib.hid fun v hv => what_none c s v ts)
    | true =>
      rcases kind s w hc hs with ⟨q, _⟩ | ⟨_, k', b', p', d', _, HS⟩
      · rw [ts] at q; cases q
      · exact resize_none_run _ _ _ _ _ _ _ _ (.inl rfl) (Lib.hid HO) (Lib.hid fun v hv => HS v (oks v hv))
  · rcases kind s w hc hs with ⟨ts, _⟩ | ⟨ts, k', b', p', d', hk', HS⟩
    · rw [show resizeB c o s = 0 by unfold resizeB; rw [ts, Bool.and_false]; rfl]
      exact resize_none_run _ _ _ _ _ _ _ _ (.inr rfl) (Lib.hid (HO _ (oks _ bw))) (Lib.hid fun v hv => what_none c s v ts)
    · obtain ⟨o1, o2⟩ := isT_true.1 to
      obtain ⟨s1, s2⟩ := isT_true.1 ts
      have q1 := many_bounds (x := o) (p := c.size) (by omega) (by omega)
      have q2 := many_bounds (x := s) (p := c.size) (by omega) (by omega)
      rw [show resizeB c o s = allocB c s + freeB c o + 3 * o + (many o c.size + many s c.size + 4) by unfold resizeB; rw [to, ts]; simp only [Bool.and_self, if_true]; omega]
      exact resize_both_run k b p d k' b' p' d' _ _ _ _ hk hk' (by omega) (alloc_in M) (free_in M) (by omega) (by omega) (Lib.hid (HO _ (oks _ bw))) (Lib.hid fun v hv => HS v (oks v hv))
        (Lib.hid fun v => data_any o c.size v ho.2) (Lib.hid fun v => data_any s c.size v hs.2) (Lib.hid fun v hv => alloc_any (oks v hv) M hs) (Lib.hid fun v hv => free_any (oks v hv) M ho)
end
end Go.Proofs.Ytpdhlnkdjcghpaa
