import Derived.Test.YtijkigibcpgciaaZPlRefNew
/-
  The document's own answers for package pool (almeryref08): with, Take, Give.
-/
namespace Go.Proofs.Ytijkigibcpgciaa.Pl
open Go.ChangeShapes Go.WideShapes Go.ChangeAt Go.RowKit Go.Deep
set_option maxRecDepth 100000

theorem _root_.Go.Proofs.Ytijkigibcpgciaa.Ints.setPl {w w' : World} {g n k : Nat} {O : List Int} {o : Int} (h : Ints w w.heap.size (some ⟨g, 0, none⟩) n O) (hk : k < n) (ho : Fit o) (hs : w.heap.size ≤ w'.heap.size) (h1 : w'.cell? ⟨g, k, none⟩ = some (.int .i64 o)) (h2 : ∀ j, j ≠ k → w'.cell? ⟨g, j, none⟩ = w.cell? ⟨g, j, none⟩) :
    Ints w' w'.heap.size (some ⟨g, 0, none⟩) n (O.set k o) := by
  have hl := h.len
  obtain ⟨b, o', e, hb, hc⟩ := h.head (by omega)
  injection e with e
  injection e with e1 e2
  subst e1 e2
  refine ⟨by rw [List.length_set]; exact hl, h.max, fun x hx => ?_, fun _ => ⟨g, 0, rfl, by omega, fun j s hj => ?_⟩⟩
  · rcases List.mem_or_eq_of_mem_set hx with q | q
    · exact h.2.2.1 x q
    · rw [q]; exact ho
  · rw [Nat.zero_add]
    by_cases z : k = j
    · subst z
      rw [List.getElem?_set_self (by omega)] at hj
      cases hj
      exact h1
    · rw [List.getElem?_set_ne z] at hj
      have := hc j s hj
      rw [Nat.zero_add] at this
      exact (h2 j (fun q => z q.symm)).trans this

/-- Two variables of the call: what came in, and the result. -/
def boxed (w : World) (oa : Option Addr) (K oc : Nat) (fa : Option Addr) (n fc : Nat) : World :=
  (w.alloc (.cells #[.slice oa K oc, .slice fa n fc] 33)).alloc (.cells #[.slice none 0 0, .slice none 0 0] 33)
section
variable (w : World) (oa : Option Addr) (K oc : Nat) (fa : Option Addr) (n fc : Nat)
theorem boxed_below : Below w.heap.size w (boxed w oa K oc fa n fc) := below2 w _ _
theorem boxed_size : (boxed w oa K oc fa n fc).heap.size = w.heap.size + 2 := by simp [boxed]
theorem boxed_x : Bv (boxed w oa K oc fa n fc) w.heap.size oa K oc fa n fc := (Bv.new w oa K oc fa n fc).below (below1 _ _)
theorem boxed_z : Bv (boxed w oa K oc fa n fc) (w.heap.size + 1) none 0 0 none 0 0 := by
  have := Bv.new (w.alloc (.cells #[.slice oa K oc, .slice fa n fc] 33)) none 0 0 none 0 0
  rwa [show (w.alloc (.cells #[.slice oa K oc, .slice fa n fc] 33)).heap.size = w.heap.size + 1 by simp] at this
end

/-- How 'with' ends: the owners are laid anew, one of them another one. -/
def WithEnds (K n : Nat) (fa : Option Addr) (fc : Nat) (O : List Int) (w : World) (e : Ending) (w' : World) : Prop :=
  ∃ g cap, e = .returned (.agg #[.slice (some ⟨g, 0, none⟩) K cap, .slice fa n fc]) ∧ Ints w' w'.heap.size (some ⟨g, 0, none⟩) K O ∧ w.heap.size ≤ g ∧ g < w'.heap.size ∧ K ≤ cap ∧ Below w.heap.size w w'
section
variable {w : World} {P : Nat → Prop} {oa fa : Option Addr} {oc fc n K : Nat} {O fl : List Int}
set_option maxHeartbeats 1000000 in
theorem refWith_any (h : Ints w w.heap.size oa K O) (k : Nat) (hk : k < K) (hK : K ≤ 1024) (o : Int) (ho : Fit o) :
    Calls Try.prog 81 #[.agg #[.slice oa K oc, .slice fa n fc], .int .i64 (k : Int), .int .i64 o] w (WithEnds K n fa fc (O.set k o) w) := by
  obtain ⟨W, hW⟩ : ∃ W, W = boxed w oa K oc fa n fc := ⟨_, rfl⟩
  have bW := boxed_below w oa K oc fa n fc
  have sW := boxed_size w oa K oc fa n fc
  have X0 := boxed_x w oa K oc fa n fc
  have Z0 := boxed_z w oa K oc fa n fc
  rw [← hW] at bW sW X0 Z0
  have ownA : (W.alloc (.cells #[] 3)).ownsRow W.heap.size 3 1 (.slice (some ⟨W.heap.size, 0, none⟩) 0 0) 0 (([] : List Int).map (Value.int .i64)) := World.ownsRow_lit W #[] 0 (Nat.le_refl _) (by unfold maxLen; omega) rfl
  obtain ⟨g, cap, w3, hrun, hown, b3⟩ := app_ints (c := oc) ownA ((h.on bW).on (below1 W (.cells #[] 3))) (by simp) (by omega) 31
  rw [Nat.zero_add, List.nil_append] at hown
  rw [Nat.zero_add] at hrun
  have hfit : ∀ x ∈ O, -9223372036854775808 ≤ x ∧ x ≤ 9223372036854775807 := h.2.2.1
  obtain ⟨I3, hcap⟩ := ints_own hown (by omega) hfit
  have bb3 : Below W.heap.size W w3 := (below1 W _).trans b3
  have X3 := Lib.hid (X0.below bb3)
  have Z3 := Lib.hid (Z0.below bb3)
  have HI := Lib.hid I3
  have HB := Lib.hid (belowT bW bb3)
  have hg := hown.lt g rfl
  have HG := Lib.hid (show w.heap.size + 2 ≤ g by omega)
  have HG2 := Lib.hid hg.2
  have HC := Lib.hid hcap
  obtain ⟨x0, hx0, _⟩ := I3.at_ hk
  obtain ⟨b', o', e', _, hcell⟩ := I3.head (by omega)
  injection e' with e'
  injection e' with e1 e2
  subst e1 e2
  have k0 := hcell k x0 hx0
  rw [Nat.zero_add] at k0
  have k1 := hown.frozenAt k
  have b4 := but_one w3 g k (.int .i64 o)
  have B4 := Lib.hid b4
  obtain ⟨p0, p1, p2, p3⟩ := X3.out.but b4 (fun e => by have := HG.out; omega)
  obtain ⟨q0, q1, q2, q3⟩ := Z3.out.but b4 (fun e => by have := HG.out; omega)
  rw [hW, boxed] at hrun
  simp at hrun
  have HRN := Lib.hid hrun
  clear h hrun hown b3 hfit hcap hg hx0 hcell X0 Z0 bW sW hW bb3 I3 ownA b4
  go_enter Try.func81, Try.ntmps81
  go_wp2_with (at_builtin; refine wpList_append_run rfl _ _ rfl rfl rfl rfl HRN.out ?_)
  refine bodyPost_ret (v := .agg #[.slice (some ⟨g, 0, none⟩) K cap, .slice fa n fc]) (by simp [results, Try.results81, go_sem, q0, q1]) rfl ?_
  have hkg := World.cell?_setCell_same w3 ⟨g, k, none⟩ (.int .i64 o) k0
  have hko : ∀ j, j ≠ k → (w3.setCell ⟨g, k, none⟩ (.int .i64 o)).cell? ⟨g, j, none⟩ = w3.cell? ⟨g, j, none⟩ := fun j hj => World.cell?_setCell_other w3 ⟨g, k, none⟩ ⟨g, j, none⟩ _ (by simp <;> omega)
  have I4 := HI.out.setPl hk ho B4.out.size hkg hko
  have b4 := B4.out
  have hlt : w.heap.size + 1 < (w3.setCell ⟨g, k, none⟩ (.int .i64 o)).heap.size := lt_of_cell (p := ⟨w.heap.size + 1, 0, none⟩) q0
  have hg4 : g < (w3.setCell ⟨g, k, none⟩ (.int .i64 o)).heap.size := Nat.lt_of_lt_of_le HG2.out b4.size
  generalize w3.setCell ⟨g, k, none⟩ (.int .i64 o) = w4 at b4 I4 hlt hg4 ⊢
  have bb : But (fun j => j = w.heap.size ∨ j = w.heap.size + 1) w4 _ := (((But.refl _ w4).setCell (p := ⟨w.heap.size, 0, none⟩) (fun _ => Or.inl rfl) (.slice (some ⟨g, 0, none⟩) K cap)).setCell (p := ⟨w.heap.size + 1, 0, none⟩) (fun _ => Or.inr rfl) (.slice (some ⟨g, 0, none⟩) K cap)).setCell (p := ⟨w.heap.size + 1, 1, none⟩) (fun _ => Or.inr rfl) (.slice fa n fc)
  generalize ((w4.setCell ⟨w.heap.size, 0, none⟩ (.slice (some ⟨g, 0, none⟩) K cap)).setCell ⟨w.heap.size + 1, 0, none⟩ (.slice (some ⟨g, 0, none⟩) K cap)).setCell ⟨w.heap.size + 1, 1, none⟩ (.slice fa n fc) = w5 at bb ⊢
  have hg := HG.out
  have B5 : Below w.heap.size w w5 := (HB.out.trans (b4.one HB.out.size (by omega))).trans (bb.below (by omega) (fun j hj e => by omega))
  exact ⟨g, cap, rfl, (I4.butAt bb (Nat.le_refl _) (by omega)).more bb.size, by omega, Nat.lt_of_lt_of_le hg4 bb.size, HC.out, B5⟩

theorem refTake_arg (h : Rp w P oa oc fa fc n K O fl) (o : Int) (ho : o < 0) :
    Calls Try.prog 79 #[.agg #[.slice oa K oc, .slice fa n fc], .int .i64 o] w (RefTake P K (O, fl, 0, 1) w) := by
  have bel : ∀ o1 o2 : Obj, RefTake P K (O, fl, 0, 1) w (.returned (.tuple #[.agg #[.slice oa K oc, .slice fa n fc], .int .i64 0, .int .i64 1])) ((w.alloc o1).alloc o2) := fun o1 o2 => ⟨oa, oc, fa, fc, n, P, rfl, h.on (below2 w o1 o2), below2 w o1 o2, fun _ h => Or.inl h⟩
  have HE := Lib.hid bel
  have d1 : decide (o < 0) = true := by simpa using ho
  clear h bel ho
  go_enter Try.func79, Try.ntmps79
  go_wp2
  refine bodyPost_ret (v := .tuple #[.agg #[.slice oa K oc, .slice fa n fc], .int .i64 0, .int .i64 1]) (by simp [results, Try.results79, go_sem]) rfl ?_
  exact HE.out _ _
theorem refTake_none (h : Rp w P oa oc fa fc n K O []) (o : Int) (ho : 0 ≤ o) :
    Calls Try.prog 79 #[.agg #[.slice oa K oc, .slice fa n fc], .int .i64 o] w (RefTake P K (O, [], 0, 5) w) := by
  obtain rfl : n = 0 := by have := h.free.len; simpa using this.symm
  have bel : ∀ o1 o2 : Obj, RefTake P K (O, [], 0, 5) w (.returned (.tuple #[.agg #[.slice oa K oc, .slice fa 0 fc], .int .i64 0, .int .i64 5])) ((w.alloc o1).alloc o2) := fun o1 o2 => ⟨oa, oc, fa, fc, 0, P, rfl, h.on (below2 w o1 o2), below2 w o1 o2, fun _ h => Or.inl h⟩
  have HE := Lib.hid bel
  have d1 : decide (o < 0) = false := by simpa using ho
  clear h bel ho
  go_enter Try.func79, Try.ntmps79
  go_wp2
  refine bodyPost_ret (v := .tuple #[.agg #[.slice oa K oc, .slice fa 0 fc], .int .i64 0, .int .i64 5]) (by simp [results, Try.results79, go_sem]) rfl ?_
  exact HE.out _ _
theorem refGive_arg (h : Rp w P oa oc fa fc n K O fl) (i : Int) (hi : inB K i = false) :
    Calls Try.prog 64 #[.agg #[.slice oa K oc, .slice fa n fc], .int .i64 i] w (RefGive P K (O, fl, 1) w) := by
  have bel : ∀ o1 o2 : Obj, RefGive P K (O, fl, 1) w (.returned (.tuple #[.agg #[.slice oa K oc, .slice fa n fc], .int .i64 1])) ((w.alloc o1).alloc o2) := fun o1 o2 => ⟨oa, oc, fa, fc, n, P, rfl, h.on (below2 w o1 o2), below2 w o1 o2, fun _ h => Or.inl h⟩
  have HE := Lib.hid bel
  clear h bel
  by_cases h0 : i < 0
  · have d1 : decide (i < 0) = true := by simpa using h0
    clear hi
    go_enter Try.func64, Try.ntmps64
    go_wp2
    refine bodyPost_ret (v := .tuple #[.agg #[.slice oa K oc, .slice fa n fc], .int .i64 1]) (by simp [results, Try.results64, go_sem]) rfl ?_
    exact HE.out _ _
  · have d1 : decide (i < 0) = false := by simpa using h0
    have d2 : decide ((K : Int) ≤ i) = true := by simp [inB] at hi; simp; omega
    clear hi
    go_enter Try.func64, Try.ntmps64
    go_wp2
    refine bodyPost_ret (v := .tuple #[.agg #[.slice oa K oc, .slice fa n fc], .int .i64 1]) (by simp [results, Try.results64, go_sem]) rfl ?_
    exact HE.out _ _
theorem refGive_none (h : Rp w P oa oc fa fc n K O fl) (k : Nat) (hk : k < K) (hx : O[k]? = some (-1)) :
    Calls Try.prog 64 #[.agg #[.slice oa K oc, .slice fa n fc], .int .i64 (k : Int)] w (RefGive P K (O, fl, 9) w) := by
  have bel : ∀ o1 o2 : Obj, RefGive P K (O, fl, 9) w (.returned (.tuple #[.agg #[.slice oa K oc, .slice fa n fc], .int .i64 9])) ((w.alloc o1).alloc o2) := fun o1 o2 => ⟨oa, oc, fa, fc, n, P, rfl, h.on (below2 w o1 o2), below2 w o1 o2, fun _ h => Or.inl h⟩
  have HE := Lib.hid bel
  have d1 : decide ((k : Int) < 0) = false := decide_eq_false (by omega)
  have d2 : decide ((K : Int) ≤ (k : Int)) = false := decide_eq_false (by omega)
  obtain ⟨b, o, rfl, hb, hc⟩ := h.own.head (by omega)
  have c0 := hc k _ hx
  have hkm := h.own.max
  clear h bel hc hx
  go_enter Try.func64, Try.ntmps64
  go_wp2
  refine bodyPost_ret (v := .tuple #[.agg #[.slice (some ⟨b, o, none⟩) K oc, .slice fa n fc], .int .i64 9]) (by simp [results, Try.results64, go_sem]) rfl ?_
  exact HE.out _ _
end
end Go.Proofs.Ytijkigibcpgciaa.Pl
