/-
  The document's own Free of package bound (almeryref18.Free), met by a contract: the plain 'freeB'; all memory that was there is as it was.
-/
import Derived.Test.YtpdhlnkdjcghpaaBoundRef
namespace Go.Proofs.Ytpdhlnkdjcghpaa
open Go.ChangeShapes Go.WideShapes Go.ChangeAt Go.RowKit

section
variable {c : Cf} {s : Int} {w : World}
theorem refFree_small (b : Int) (hb : 0 ≤ b ∧ b ≤ 4096) (hst : 0 ≤ c.step ∧ c.step ≤ 65536) (HI : Hid (Calls Try.prog 21 #[(.agg #[.int .i64 c.size, .int .i64 c.pages, .slice c.ca c.cn c.cc, .slice c.ka c.kn c.kc, .int .i64 c.step, .int .i64 c.slots, .int .i64 c.gens, .int .i64 c.most]), .int .i64 s] (w.alloc (.cells #[.int .i64 c.size, .int .i64 c.pages, .slice c.ca c.cn c.cc, .slice c.ka c.kn c.kc, .int .i64 c.step, .int .i64 c.slots, .int .i64 c.gens, .int .i64 c.most] 24)) (BB true (w.alloc (.cells #[.int .i64 c.size, .int .i64 c.pages, .slice c.ca c.cn c.cc, .slice c.ka c.kn c.kc, .int .i64 c.step, .int .i64 c.slots, .int .i64 c.gens, .int .i64 c.most] 24))))) (HS : Hid (∀ v, Below w.heap.size w v → Calls Try.prog 22 #[(.agg #[.int .i64 c.size, .int .i64 c.pages, .slice c.ca c.cn c.cc, .slice c.ka c.kn c.kc, .int .i64 c.step, .int .i64 c.slots, .int .i64 c.gens, .int .i64 c.most]), .int .i64 s] v (BB true v)))
    (HB : Hid (∀ v, Below w.heap.size w v → Calls Try.prog 23 #[(.agg #[.int .i64 c.size, .int .i64 c.pages, .slice c.ca c.cn c.cc, .slice c.ka c.kn c.kc, .int .i64 c.step, .int .i64 c.slots, .int .i64 c.gens, .int .i64 c.most]), .int .i64 s] v (IB b v))) : Calls Try.prog 10 #[(.agg #[.int .i64 c.size, .int .i64 c.pages, .slice c.ca c.cn c.cc, .slice c.ka c.kn c.kc, .int .i64 c.step, .int .i64 c.slots, .int .i64 c.gens, .int .i64 c.most]), .int .i64 s] w (IB (27 + b + min b c.step) w) := by
  have b0 := below1 w (.cells #[.int .i64 c.size, .int .i64 c.pages, .slice c.ca c.cn c.cc, .slice c.ka c.kn c.kc, .int .i64 c.step, .int .i64 c.slots, .int .i64 c.gens, .int .i64 c.most] 24)
  have X0 := Boxed.new w c
  have hm : 0 ≤ min b c.step ∧ min b c.step ≤ 100000 := by omega
  have hw : IntKind.i64.wrap (IntKind.i64.wrap (27 + b) + min b c.step) = 27 + b + min b c.step := by rw [IntWalk.i64_in (27 + b) (by omega)]; exact IntWalk.i64_in _ (by omega)
  rw [← hw]
  clear hb hst hm hw
  go_enter Try.func10, Try.ntmps10
  go_wp2_with fail
  refine HI.out.mono ?_
  rintro e w1 ⟨rfl, f1⟩
  have b1 := belowT b0 f1
  have X1 := X0.on f1
  clear f1 b0 X0 HI
  have ⟨x0, x1, x2, x3, x4, x5, x6, x7, x8⟩ := X1
  go_wp2_with fail
  refine (HS.out _ b1).mono ?_
  rintro e W ⟨rfl, f2⟩
  have b2 := belowT b1 f2
  have X2 := X1.on f2
  clear f2 b1 X1 HS x0 x1 x2 x3 x4 x5 x6 x7 x8
  have ⟨x0, x1, x2, x3, x4, x5, x6, x7, x8⟩ := X2
  go_wp2_with fail
  refine wp_region_held_drew (S := (fun w' => w'.cell? ⟨w.heap.size, 0, none⟩ = some (.int .i64 c.size) ∧ w'.cell? ⟨w.heap.size, 1, none⟩ = some (.int .i64 c.pages) ∧
        w'.cell? ⟨w.heap.size, 2, none⟩ = some (.slice c.ca c.cn c.cc) ∧ w'.cell? ⟨w.heap.size, 3, none⟩ = some (.slice c.ka c.kn c.kc) ∧
        w'.cell? ⟨w.heap.size, 4, none⟩ = some (.int .i64 c.step) ∧ w'.cell? ⟨w.heap.size, 5, none⟩ = some (.int .i64 c.slots) ∧
        w'.cell? ⟨w.heap.size, 6, none⟩ = some (.int .i64 c.gens) ∧ w'.cell? ⟨w.heap.size, 7, none⟩ = some (.int .i64 c.most))) (by kernel_rfl) ⟨x0, x1, x2, x3, x4, x5, x6, x7⟩ (fun hHeld => ?_)
  refine held_on (i := 0) (v := ?_) rfl (by kernel_rfl) (by kernel_rfl) (by kernel_rfl) (fun _ _ _ h => h) ?_ ?_ (by assumption) ?_
  rotate_left 1
  · rfl
  · intro w hSw; (try dsimp only at hSw); go_simp; try with_reducible rfl
  try simp only [Act.put, List.setIfInBounds_toArray, List.set_cons_zero, List.set_cons_succ, List.getElem_toArray, List.getElem_cons_zero]
  refine held_on (i := 1) (v := ?_) rfl (by kernel_rfl) (by kernel_rfl) (by kernel_rfl) (fun _ _ _ h => h) ?_ ?_ (by assumption) ?_
  rotate_left 1
  · rfl
  · intro w hSw; (try dsimp only at hSw); go_simp; try with_reducible rfl
  try simp only [Act.put, List.setIfInBounds_toArray, List.set_cons_zero, List.set_cons_succ, List.getElem_toArray, List.getElem_cons_zero, List.getElem_cons_succ]
  refine held_on (i := 4) (v := ?_) rfl (by kernel_rfl) (by kernel_rfl) (by kernel_rfl) (fun _ _ _ h => h) ?_ ?_ (by assumption) ?_
  rotate_left 1
  · rfl
  · intro w hSw; (try dsimp only at hSw); go_simp; try with_reducible rfl
  try simp only [Act.put, List.setIfInBounds_toArray, List.set_cons_zero, List.set_cons_succ, List.getElem_toArray, List.getElem_cons_zero, List.getElem_cons_succ]
  refine held_on (i := 5) (v := ?_) rfl (by kernel_rfl) (by kernel_rfl) (by kernel_rfl) (fun _ _ _ h => h) ?_ ?_ (by assumption) ?_
  rotate_left 1
  · rfl
  · intro w hSw; (try dsimp only at hSw); go_simp; try with_reducible rfl
  try simp only [Act.put, List.setIfInBounds_toArray, List.set_cons_zero, List.set_cons_succ, List.getElem_toArray, List.getElem_cons_zero, List.getElem_cons_succ]
  refine held_on (i := 7) (v := ?_) rfl (by kernel_rfl) (by kernel_rfl) (by kernel_rfl) (fun _ _ _ h => h) ?_ ?_ (by assumption) ?_
  rotate_left 1
  · rfl
  · intro w hSw; (try dsimp only at hSw); go_simp; try with_reducible rfl
  try simp only [Act.put, List.setIfInBounds_toArray, List.set_cons_zero, List.set_cons_succ, List.getElem_toArray, List.getElem_cons_zero, List.getElem_cons_succ]
  refine held_on (i := 8) (v := ?_) rfl (by kernel_rfl) (by kernel_rfl) (by kernel_rfl) (fun _ _ _ h => h) ?_ ?_ (by assumption) ?_
  rotate_left 1
  · rfl
  · intro w hSw; (try dsimp only at hSw); go_simp; try with_reducible rfl
  try simp only [Act.put, List.setIfInBounds_toArray, List.set_cons_zero, List.set_cons_succ, List.getElem_toArray, List.getElem_cons_zero, List.getElem_cons_succ]
  refine wpAnyH_ready (rs := [2]) (by kernel_rfl) (by simp) ?_
  refine AllReadyH.cons rfl (fun K hK => ?_) AllReadyH.nil
  go_simp
  refine (HB.out _ (belowD b2)).mono ?_
  rintro e w6 ⟨rfl, f6⟩
  have c6 : Below W.heap.size W w6 := belowT (belowD (Below.refl _ _)) f6
  refine hK.out _ _ (keep8 c6 x8 ⟨x0, x1, x2, x3, x4, x5, x6, x7⟩) (fun hHeld2 => ?_)
  clear hK K f6
  refine held_on (i := 3) (v := ?_) rfl (by kernel_rfl) (by kernel_rfl) (by kernel_rfl) (fun _ _ _ h => h) ?_ ?_ (by assumption) ?_
  rotate_left 1
  · rfl
  · intro w hSw; (try dsimp only at hSw); go_simp; try with_reducible rfl
  try simp only [Act.put, List.setIfInBounds_toArray, List.set_cons_zero, List.set_cons_succ, List.getElem_toArray, List.getElem_cons_zero, List.getElem_cons_succ]
  refine wpAnyH_ready (rs := [6]) (by kernel_rfl) (by simp) ?_
  refine AllReadyH.cons rfl (fun K hK => ?_) AllReadyH.nil
  go_simp
  refine (HB.out _ (belowT b2 c6)).mono ?_
  rintro e w7 ⟨rfl, f7⟩
  have c7 : Below W.heap.size W w7 := belowT c6 f7
  refine hK.out _ _ (keep8 c7 x8 ⟨x0, x1, x2, x3, x4, x5, x6, x7⟩) (fun hHeld3 => ?_)
  clear hK K f7 c6
  refine wpAnyH_ready (rs := [9]) (by kernel_rfl) (by simp) ?_
  refine AllReadyH.cons rfl (fun K hK => ?_) AllReadyH.nil
  go_simp
  refine hK.out _ _ (keep8 c7 x8 ⟨x0, x1, x2, x3, x4, x5, x6, x7⟩) (fun hHeld4 => ?_)
  clear hK K
  refine held_on (i := 10) (v := ?_) rfl (by kernel_rfl) (by kernel_rfl) (by kernel_rfl) (fun _ _ _ h => h) ?_ ?_ (by assumption) ?_
  rotate_left 1
  · rfl
  · intro w hSw; (try dsimp only at hSw); go_simp; try with_reducible rfl
  try simp only [Act.put, List.setIfInBounds_toArray, List.set_cons_zero, List.set_cons_succ, List.getElem_toArray, List.getElem_cons_zero, List.getElem_cons_succ]
  refine held_on (i := 11) (v := ?_) rfl (by kernel_rfl) (by kernel_rfl) (by kernel_rfl) (fun _ _ _ h => h) ?_ ?_ (by assumption) ?_
  rotate_left 1
  · rfl
  · intro w hSw; (try dsimp only at hSw); go_simp; try with_reducible rfl
  try simp only [Act.put, List.setIfInBounds_toArray, List.set_cons_zero, List.set_cons_succ, List.getElem_toArray, List.getElem_cons_zero, List.getElem_cons_succ]
  refine wpAnyH_done (by kernel_rfl) ?_ _
  have HB := Lib.hid (belowT b2 c7)
  clear c7 b2 hHeld hHeld2 hHeld3 hHeld4
  go_wp2
  go_ret
  exact ⟨rfl, HB.out⟩
theorem refFree_any (hc : c.Ok w w.heap.size) (M : MayC c) (hs : Fit s) : Calls Try.prog 10 #[(.agg #[.int .i64 c.size, .int .i64 c.pages, .slice c.ca c.cn c.cc, .slice c.ka c.kn c.kc, .int .i64 c.step, .int .i64 c.slots, .int .i64 c.gens, .int .i64 c.most]), .int .i64 s] w (IB (freeB c s) w) := by
  have b0 := below1 w (.cells #[.int .i64 c.size, .int .i64 c.pages, .slice c.ca c.cn c.cc, .slice c.ka c.kn c.kc, .int .i64 c.step, .int .i64 c.slots, .int .i64 c.gens, .int .i64 c.most] 24)
  have X0 := Boxed.new w c
  have HI := Lib.hid (refIs_any c s (w.alloc (.cells #[.int .i64 c.size, .int .i64 c.pages, .slice c.ca c.cn c.cc, .slice c.ka c.kn c.kc, .int .i64 c.step, .int .i64 c.slots, .int .i64 c.gens, .int .i64 c.most] 24)))
  have O := Lib.hid (fun v (hv : Below w.heap.size w v) => hc.on hv)
  cases ht : isT c s with
  | false =>
    rw [free_none ht]
    rw [ht] at HI
    clear hc M hs ht O X0
    go_enter Try.func10, Try.ntmps10
    go_wp2_with fail
    refine HI.out.mono ?_
    rintro e w1 ⟨rfl, f1⟩
    go_wp2
    go_ret
    exact ⟨rfl, belowT b0 f1⟩
  | true =>
    rw [ht] at HI
    have HS := Lib.hid (fun v (hv : Below w.heap.size w v) => refIsSmall_any (s := s) (O.out v hv))
    by_cases hsm : s ≤ small c
    · have HB := Lib.hid (fun v (hv : Below w.heap.size w v) => refBlock_any (O.out v hv) M ht hsm)
      obtain ⟨_, b, _, _, _, e, _, z1, z2⟩ := M.block ht hsm
      have hst := M.step
      rw [free_small ht hsm]
      rw [e] at HB ⊢
      rw [decide_eq_true hsm] at HS
      exact refFree_small b (by omega) (by omega) HI HS HB
    · rw [free_large ht hsm]
      obtain ⟨m1, m2, a1, a2, p1, p2⟩ := M.wide (s := s) ht
      have HA := Lib.hid (fun v => refAll_any s c.size v hs.2)
      have HD := Lib.hid (fun v => refData_any s c.size v hs.2)
      rw [decide_eq_false hsm] at HS
      clear hc M hs ht O hsm p1 p2
      generalize allOf s c.size = p at *
      generalize many s c.size = d at *
      go_enter Try.func10, Try.ntmps10
      go_wp2_with fail
      refine HI.out.mono ?_
      rintro e w1 ⟨rfl, f1⟩
      have b1 := belowT b0 f1
      have X1 := X0.on f1
      clear f1 b0 X0 HI
      have ⟨x0, x1, x2, x3, x4, x5, x6, x7, x8⟩ := X1
      go_wp2_with fail
      refine (HS.out _ b1).mono ?_
      rintro e w2 ⟨rfl, f2⟩
      have b2 := belowT b1 f2
      have X2 := X1.on f2
      clear f2 b1 X1 HS x0 x1 x2 x3 x4 x5 x6 x7 x8
      have ⟨x0, x1, x2, x3, x4, x5, x6, x7, x8⟩ := X2
      go_wp2_with fail
      go_quiet ((first
        | (go_at_call 24; exact quiet1 (HA.out _))
        | (go_at_call 25; exact quiet1 (HD.out _))))
      go_wp2
      go_ret
      exact ⟨rfl, belowN b2 _⟩
end
end Go.Proofs.Ytpdhlnkdjcghpaa
