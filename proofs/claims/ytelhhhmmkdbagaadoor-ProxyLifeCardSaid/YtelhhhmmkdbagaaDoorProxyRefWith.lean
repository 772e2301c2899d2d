/-
  The document's own answers for package proxy (almeryref10): with.
-/
import Derived.Test.YtelhhhmmkdbagaaDoorProxyRef
namespace Go.Proofs.YtelhhhmmkdbagaaDoor
open Go.ChangeShapes Go.WideShapes Go.ChangeAt Go.RowKit Go.Deep

theorem Ints.set {w w' : World} {g n k : Nat} {O : List Int} {o : Int} (h : Ints w w.heap.size (some ⟨g, 0, none⟩) n O) (hk : k < n) (ho : -9223372036854775808 ≤ o ∧ o ≤ 9223372036854775807) (hs : w.heap.size ≤ w'.heap.size) (h1 : w'.cell? ⟨g, k, none⟩ = some (.int .i64 o)) (h2 : ∀ j, j ≠ k → w'.cell? ⟨g, j, none⟩ = w.cell? ⟨g, j, none⟩) :
    Ints w' w'.heap.size (some ⟨g, 0, none⟩) n (O.set k o) := by
  have hl := h.len
  obtain ⟨b, o', e, hb, hc⟩ := h.head (by omega)
  injection e with e
  injection e with e1 e2
  subst e1 e2
  refine ⟨by rw [List.length_set]; exact hl, h.max, fun x hx => ?_, fun _ => ⟨g, 0, rfl, by omega, fun j s hj => ?_⟩⟩
  · rcases List.mem_or_eq_of_mem_set hx with q | q
    · exact h.2.2.1 x q
    · rw [q]; exact ho
  · rw [Nat.zero_add]
    by_cases z : k = j
    · subst z
      rw [List.getElem?_set_self (by omega)] at hj
      cases hj
      exact h1
    · rw [List.getElem?_set_ne z] at hj
      have := hc j s hj
      rw [Nat.zero_add] at this
      exact (h2 j (fun q => z q.symm)).trans this

/-- Two variables of the call: what came in, and the result. -/
def boxed (w : World) (v0 v1 v2 v3 : Value) : World := (w.alloc (.cells #[v0, v1, v2, v3] 29)).alloc (.cells #[.slice none 0 0, .slice none 0 0, .slice none 0 0, .int .i64 0] 29)
section
variable (w : World) (v0 v1 v2 v3 : Value)
theorem boxed_below : Below w.heap.size w (boxed w v0 v1 v2 v3) := below2 w _ _
theorem boxed_size : (boxed w v0 v1 v2 v3).heap.size = w.heap.size + 2 := by simp [boxed]
theorem boxed_x : Bv (boxed w v0 v1 v2 v3) w.heap.size v0 v1 v2 v3 := (Bv.new w v0 v1 v2 v3).below (below1 _ _)
theorem boxed_z : Bv (boxed w v0 v1 v2 v3) (w.heap.size + 1) (.slice none 0 0) (.slice none 0 0) (.slice none 0 0) (.int .i64 0) := by
  have := Bv.new (w.alloc (.cells #[v0, v1, v2, v3] 29)) (.slice none 0 0) (.slice none 0 0) (.slice none 0 0) (.int .i64 0)
  rwa [show (w.alloc (.cells #[v0, v1, v2, v3] 29)).heap.size = w.heap.size + 1 by simp] at this
end

/-- How 'with' ends: generations and bools are laid anew, one of each another one. -/
def WithEnds (K n : Nat) (fa : Option Addr) (fc : Nat) (M : Int) (G : List Int) (L : List Bool) (w : World) (e : Ending) (w' : World) : Prop :=
  ∃ g1 c1 g2 c2, e = .returned (.agg #[.slice (some ⟨g1, 0, none⟩) K c1, .slice (some ⟨g2, 0, none⟩) K c2, .slice fa n fc, .int .i64 M]) ∧ Ints w' w'.heap.size (some ⟨g1, 0, none⟩) K G ∧ Bools w' w'.heap.size (some ⟨g2, 0, none⟩) K L ∧
    (w.heap.size ≤ g1 ∧ g1 < w'.heap.size ∧ K ≤ c1) ∧ (w.heap.size ≤ g2 ∧ g2 < w'.heap.size ∧ K ≤ c2) ∧ Below w.heap.size w w'
section
variable {w : World} {ga la fa : Option Addr} {gc lc fc n K : Nat} {M : Int} {G : List Int} {L : List Bool}
set_option maxHeartbeats 2000000 in
theorem refWith_any (hG : Ints w w.heap.size ga K G) (hL : Bools w w.heap.size la K L) (k : Nat) (hk : k < K) (hK : K ≤ 4096) (o : Int) (ho : -9223372036854775808 ≤ o ∧ o ≤ 9223372036854775807) (b : Bool) :
    Calls Tryd.prog 28 #[.agg #[.slice ga K gc, .slice la K lc, .slice fa n fc, .int .i64 M], .int .i64 (k : Int), .int .i64 o, .bool b] w (WithEnds K n fa fc M (G.set k o) (L.set k b) w) := by
  obtain ⟨W, hW⟩ : ∃ W, W = boxed w (.slice ga K gc) (.slice la K lc) (.slice fa n fc) (.int .i64 M) := ⟨_, rfl⟩
  have bW := boxed_below w (.slice ga K gc) (.slice la K lc) (.slice fa n fc) (.int .i64 M)
  have sW := boxed_size w (.slice ga K gc) (.slice la K lc) (.slice fa n fc) (.int .i64 M)
  have X0 := boxed_x w (.slice ga K gc) (.slice la K lc) (.slice fa n fc) (.int .i64 M)
  have Z0 := boxed_z w (.slice ga K gc) (.slice la K lc) (.slice fa n fc) (.int .i64 M)
  rw [← hW] at bW sW X0 Z0
  have ownA : (W.alloc (.cells #[] 3)).ownsRow W.heap.size 3 1 (.slice (some ⟨W.heap.size, 0, none⟩) 0 0) 0 (([] : List Int).map (Value.int .i64)) := World.ownsRow_lit W #[] 0 (Nat.le_refl _) (by unfold maxLen; omega) rfl
  obtain ⟨g1, cap1, w3, hrun1, hown1, b3⟩ := app_ints (c := gc) ownA ((hG.on bW).on (below1 W (.cells #[] 3))) (by simp) (by omega) 26
  rw [Nat.zero_add, List.nil_append] at hown1
  rw [Nat.zero_add] at hrun1
  obtain ⟨I3, hcap1⟩ := ints_own hown1 (by omega) hG.2.2.1
  have bb3 : Below W.heap.size W w3 := (below1 W _).trans b3
  have hg1 := hown1.lt g1 rfl
  obtain ⟨x0, hx0, _⟩ := I3.at_ hk
  obtain ⟨b', o', e', _, hcell1⟩ := I3.head (by omega)
  injection e' with e'
  injection e' with e1 e2
  subst e1 e2
  have k0 := hcell1 k x0 hx0
  rw [Nat.zero_add] at k0
  have k1 := hown1.frozenAt k
  obtain ⟨w4, hw4⟩ : ∃ w4, w4 = w3.setCell ⟨g1, k, none⟩ (.int .i64 o) := ⟨_, rfl⟩
  have b4 := but_one w3 g1 k (.int .i64 o)
  rw [← hw4] at b4
  have s4 : w4.heap.size = w3.heap.size := by rw [hw4]; simp
  have I4 : Ints w4 w4.heap.size (some ⟨g1, 0, none⟩) K (G.set k o) := by
    refine I3.set hk ho b4.size ?_ (fun j hj => ?_)
    · rw [hw4]; exact World.cell?_setCell_same w3 ⟨g1, k, none⟩ (.int .i64 o) k0
    · rw [hw4]; exact World.cell?_setCell_other w3 ⟨g1, k, none⟩ ⟨g1, j, none⟩ _ (by simp <;> omega)
  have bw3 : Below w.heap.size w w3 := belowT bW bb3
  have bw4 : Below w.heap.size w w4 := bw3.trans (b4.one bw3.size (by omega))
  have L4 : Bools w4 w4.heap.size la K L := hL.on bw4
  have X4 : Bv w4 w.heap.size (.slice ga K gc) (.slice la K lc) (.slice fa n fc) (.int .i64 M) := (X0.below bb3).but b4 (fun e => by omega)
  have Z4 : Bv w4 (w.heap.size + 1) (.slice none 0 0) (.slice none 0 0) (.slice none 0 0) (.int .i64 0) := (Z0.below bb3).but b4 (fun e => by omega)
  have ownB : (w4.alloc (.cells #[] 4)).ownsRow w4.heap.size 4 1 (.slice (some ⟨w4.heap.size, 0, none⟩) 0 0) 0 (([] : List Bool).map Value.bool) := World.ownsRow_lit w4 #[] 0 (Nat.le_refl _) (by unfold maxLen; omega) rfl
  obtain ⟨g2, cap2, w5, hrun2, hown2, b5⟩ := app_bools (c := lc) ownB (L4.on (below1 w4 (.cells #[] 4))) (by simp) (by omega) 27
  rw [Nat.zero_add, List.nil_append] at hown2
  rw [Nat.zero_add] at hrun2
  obtain ⟨J5, hcap2⟩ := bools_own hown2 (by omega)
  have bb5 : Below w4.heap.size w4 w5 := (below1 w4 _).trans b5
  have hg2 := hown2.lt g2 rfl
  obtain ⟨y0, hy0⟩ := J5.at_ hk
  obtain ⟨b', o', e', _, hcell2⟩ := J5.head (by omega)
  injection e' with e'
  injection e' with e1 e2
  subst e1 e2
  have m0 := hcell2 k y0 hy0
  rw [Nat.zero_add] at m0
  have m1 := hown2.frozenAt k
  obtain ⟨w6, hw6⟩ : ∃ w6, w6 = w5.setCell ⟨g2, k, none⟩ (.bool b) := ⟨_, rfl⟩
  have b6 := but_one w5 g2 k (.bool b)
  rw [← hw6] at b6
  have J6 : Bools w6 w6.heap.size (some ⟨g2, 0, none⟩) K (L.set k b) := by
    refine J5.set hk b6.size ?_ (fun j hj => ?_)
    · rw [hw6]; exact World.cell?_setCell_same w5 ⟨g2, k, none⟩ (.bool b) m0
    · rw [hw6]; exact World.cell?_setCell_other w5 ⟨g2, k, none⟩ ⟨g2, j, none⟩ _ (by simp <;> omega)
  have I6 : Ints w6 w6.heap.size (some ⟨g1, 0, none⟩) K (G.set k o) := ((I4.on bb5).butAt b6 (Nat.le_refl _) (fun e => by omega)).more b6.size
  have X6 : Bv w6 w.heap.size (.slice ga K gc) (.slice la K lc) (.slice fa n fc) (.int .i64 M) := (X4.below bb5).but b6 (fun e => by omega)
  have Z6 : Bv w6 (w.heap.size + 1) (.slice none 0 0) (.slice none 0 0) (.slice none 0 0) (.int .i64 0) := (Z4.below bb5).but b6 (fun e => by omega)
  have s6 := b6.size
  have s5 := bb5.size
  have bw6 : Below w.heap.size w w6 := (bw4.trans (bb5.mono bw4.size)).trans (b6.one (by have := bw4.size; omega) (by have := bw4.size; omega))
  -- the variable X, and the result
  have HI := Lib.hid I6
  have HJ := Lib.hid J6
  have HB := Lib.hid bw6
  have HX := Lib.hid ((X6.set0 (.slice (some ⟨g1, 0, none⟩) K cap1)).set1 (.slice (some ⟨g2, 0, none⟩) K cap2))
  have HZ : Hid (Bv ((w6.setCell ⟨w.heap.size, 0, none⟩ (.slice (some ⟨g1, 0, none⟩) K cap1)).setCell ⟨w.heap.size, 1, none⟩ (.slice (some ⟨g2, 0, none⟩) K cap2)) (w.heap.size + 1) (.slice none 0 0) (.slice none 0 0) (.slice none 0 0) (.int .i64 0)) :=
    Lib.hid (Z6.but ((but_one w6 w.heap.size 0 _).setCell (p := ⟨w.heap.size, 1, none⟩) (fun _ => rfl) _) (fun e => by omega))
  have HG1 : Hid (w.heap.size + 2 ≤ g1 ∧ g1 < w6.heap.size ∧ K ≤ cap1) := Lib.hid (by omega)
  have HG2 : Hid (w.heap.size + 2 ≤ g2 ∧ g2 < w6.heap.size ∧ K ≤ cap2) := Lib.hid (by have := bw4.size; omega)
  have p1 := (X4.below (below1 w4 (.cells #[] 4))).c1
  rw [hw6] at X6 Z6 HI HJ HB HX HZ HG1 HG2
  obtain ⟨q0, q1, q2, q3, qf0, qf1, qf2, qf3⟩ := X6
  obtain ⟨z0, z1, z2, z3, zf0, zf1, zf2, zf3⟩ := Z6
  rw [s4] at hrun2
  rw [hw4] at hrun2 p1
  rw [hW, boxed] at hrun1
  simp at hrun1
  have R1 := Lib.hid hrun1
  have R2 := Lib.hid hrun2
  clear X4 hG hL hW bW sW X0 Z0 ownA hrun1 hown1 b3 I3 hcap1 bb3 hg1 hx0 hcell1 hw4 b4 s4 I4 bw3 bw4 L4 Z4 ownB hrun2 hown2 b5 J5 hcap2 bb5 hg2 hy0 hcell2 hw6 b6 J6 I6 s6 s5 bw6
  go_enter Tryd.func28, Tryd.ntmps28
  go_wp2_with (first | (at_builtin; refine wpList_append_run rfl _ _ rfl rfl rfl rfl R1.out ?_) | (at_builtin; refine wpList_append_run rfl _ _ rfl rfl rfl rfl R2.out ?_))
  generalize w5.setCell ⟨g2, k, none⟩ (.bool b) = w6 at HI HJ HB HX HZ HG1 HG2 ⊢
  obtain ⟨r0, r1, r2, r3, _, _, _, _⟩ := HZ.out.set (.slice (some ⟨g1, 0, none⟩) K cap1) (.slice (some ⟨g2, 0, none⟩) K cap2) (.slice fa n fc) (.int .i64 M)
  unfold set4 at r0 r1 r2 r3
  refine bodyPost_ret (v := .agg #[.slice (some ⟨g1, 0, none⟩) K cap1, .slice (some ⟨g2, 0, none⟩) K cap2, .slice fa n fc, .int .i64 M]) (by simp [results, Tryd.results28, go_sem, r0, r1, r2, r3]) rfl ?_
  have bb : But (fun j => j = w.heap.size ∨ j = w.heap.size + 1) w6 (set4 ((w6.setCell ⟨w.heap.size, 0, none⟩ (.slice (some ⟨g1, 0, none⟩) K cap1)).setCell ⟨w.heap.size, 1, none⟩ (.slice (some ⟨g2, 0, none⟩) K cap2)) (w.heap.size + 1) (.slice (some ⟨g1, 0, none⟩) K cap1) (.slice (some ⟨g2, 0, none⟩) K cap2) (.slice fa n fc) (.int .i64 M)) :=
    (((but_one w6 w.heap.size 0 _).setCell (p := ⟨w.heap.size, 1, none⟩) (fun _ => rfl) _).mono (fun _ _ e => Or.inl e)).trans ((but_four _ (w.heap.size + 1) _ _ _ _).mono (fun _ _ e => Or.inr e))
  have a1 := HG1.out
  have a2 := HG2.out
  have a3 := HB.out.size
  exact ⟨g1, cap1, g2, cap2, rfl, (HI.out.butAt bb (Nat.le_refl _) (by omega)).more bb.size, (HJ.out.butAt bb (Nat.le_refl _) (by omega)).more bb.size, ⟨by omega, Nat.lt_of_lt_of_le a1.2.1 bb.size, a1.2.2⟩, ⟨by omega, Nat.lt_of_lt_of_le a2.2.1 bb.size, a2.2.2⟩, HB.out.trans (bb.below (by omega) (fun j hj e => by omega))⟩
end
end Go.Proofs.YtelhhhmmkdbagaaDoor
