import Derived.Test.YtfkegbipfekbdaaZPgBits
import Derived.Lib.Hide
import Derived.Deep.RegionLaw
/-
  Package ring, its ground: what Lists are in memory ('Rm'), and the contracts of within, hasList, hasNode, First, Last, Len, Next, Of, join, loose.
-/
namespace Go.Proofs.Ytfkegbipfekbdaa.Rn
open Go.ChangeShapes Go.WideShapes Go.ChangeAt Go.RowKit
set_option maxRecDepth 100000

/-- A function that tells otherwise at one place. -/
def upd (F : Nat → Int) (q : Nat) (v : Int) : Nat → Int := fun k => if k = q then v else F k
/-- Block p is Lists: N nodes in block a, of which each has three cells (ahead, behind, list), and M lists in block b, of which each has three (first, last, count). -/
structure Rm (w : World) (p a b N M : Nat) (F G : Nat → Int) : Prop where
  nodes : w.cell? ⟨p, 0, none⟩ = some (.slice (some ⟨a, 0, none⟩) N N)
  lists : w.cell? ⟨p, 1, none⟩ = some (.slice (some ⟨b, 0, none⟩) M M)
  cn : ∀ q, q < N * 3 → w.cell? ⟨a, q, none⟩ = some (.int .i64 (F q))
  fn : ∀ q, q < N * 3 → w.frozen? ⟨a, q, none⟩ = false
  cl : ∀ q, q < M * 3 → w.cell? ⟨b, q, none⟩ = some (.int .i64 (G q))
  fl : ∀ q, q < M * 3 → w.frozen? ⟨b, q, none⟩ = false
  pa : p ≠ a
  pb : p ≠ b
  ab : a ≠ b
  n1 : 1 ≤ N
  n2 : N ≤ 4096
  m1 : 1 ≤ M
  m2 : M ≤ 64
/-- What a call may turn: the nodes, and the lists. -/
def Own (a b : Nat) (i : Nat) : Prop := i = a ∨ i = b
section
variable {w w' : World} {p a b N M : Nat} {F G : Nat → Int}
theorem Rm.psize (h : Rm w p a b N M F G) : p < w.heap.size := lt_of_cell (p := ⟨p, 0, none⟩) h.nodes
theorem Rm.asize (h : Rm w p a b N M F G) : a < w.heap.size := lt_of_cell (p := ⟨a, 0, none⟩) (h.cn 0 (by have := h.n1; omega))
theorem Rm.bsize (h : Rm w p a b N M F G) : b < w.heap.size := lt_of_cell (p := ⟨b, 0, none⟩) (h.cl 0 (by have := h.m1; omega))
theorem Rm.but {S : Nat → Prop} (h : Rm w p a b N M F G) (hb : But S w w') (hp : ¬ S p) (hA : ¬ S a) (hB : ¬ S b) : Rm w' p a b N M F G :=
  ⟨(hb.cell (p := ⟨p, 0, none⟩) h.psize hp).trans h.nodes, (hb.cell (p := ⟨p, 1, none⟩) h.psize hp).trans h.lists,
    fun q hq => (hb.cell (p := ⟨a, q, none⟩) h.asize hA).trans (h.cn q hq), fun q hq => (hb.frozen (p := ⟨a, q, none⟩) h.asize hA).trans (h.fn q hq),
    fun q hq => (hb.cell (p := ⟨b, q, none⟩) h.bsize hB).trans (h.cl q hq), fun q hq => (hb.frozen (p := ⟨b, q, none⟩) h.bsize hB).trans (h.fl q hq),
    h.pa, h.pb, h.ab, h.n1, h.n2, h.m1, h.m2⟩
theorem Rm.below (h : Rm w p a b N M F G) (hb : Below w.heap.size w w') : Rm w' p a b N M F G := h.but (Below.but hb fun _ => False) id id id
theorem Rm.drewN (h : Rm w p a b N M F G) (k : Nat) : Rm (w.drewN k) p a b N M F G := h.but ((But.refl (fun _ => False) w).drewN k) id id id
theorem Rm.drew (h : Rm w p a b N M F G) : Rm w.drew p a b N M F G := h.but ((But.refl (fun _ => False) w).drew) id id id
theorem Rm.congr {F' G' : Nat → Int} (h : Rm w p a b N M F G) (hF : ∀ q, q < N * 3 → F q = F' q) (hG : ∀ q, q < M * 3 → G q = G' q) : Rm w p a b N M F' G' :=
  ⟨h.nodes, h.lists, fun q hq => by rw [← hF q hq]; exact h.cn q hq, h.fn, fun q hq => by rw [← hG q hq]; exact h.cl q hq, h.fl, h.pa, h.pb, h.ab, h.n1, h.n2, h.m1, h.m2⟩
/-- A store into a node. -/
theorem Rm.setN (h : Rm w p a b N M F G) {q : Nat} (hq : q < N * 3) (v : Int) : Rm (w.setCell ⟨a, q, none⟩ (.int .i64 v)) p a b N M (upd F q v) G := by
  refine ⟨(World.cell?_setCell_other w ⟨a, q, none⟩ ⟨p, 0, none⟩ _ (by have := h.pa; simp <;> omega)).trans h.nodes, (World.cell?_setCell_other w ⟨a, q, none⟩ ⟨p, 1, none⟩ _ (by have := h.pa; simp <;> omega)).trans h.lists, fun r hr => ?_, fun r hr => by simpa using h.fn r hr,
    fun r hr => (World.cell?_setCell_other w ⟨a, q, none⟩ ⟨b, r, none⟩ _ (by have := h.ab; simp <;> omega)).trans (h.cl r hr), fun r hr => by simpa using h.fl r hr, h.pa, h.pb, h.ab, h.n1, h.n2, h.m1, h.m2⟩
  by_cases e : r = q
  · subst e
    rw [upd, if_pos rfl]
    exact World.cell?_setCell_same w _ _ (h.cn r hr)
  · rw [upd, if_neg e]
    exact (World.cell?_setCell_other w ⟨a, q, none⟩ ⟨a, r, none⟩ _ (by simp <;> omega)).trans (h.cn r hr)
/-- A store into a list. -/
theorem Rm.setL (h : Rm w p a b N M F G) {q : Nat} (hq : q < M * 3) (v : Int) : Rm (w.setCell ⟨b, q, none⟩ (.int .i64 v)) p a b N M F (upd G q v) := by
  refine ⟨(World.cell?_setCell_other w ⟨b, q, none⟩ ⟨p, 0, none⟩ _ (by have := h.pb; simp <;> omega)).trans h.nodes, (World.cell?_setCell_other w ⟨b, q, none⟩ ⟨p, 1, none⟩ _ (by have := h.pb; simp <;> omega)).trans h.lists,
    fun r hr => (World.cell?_setCell_other w ⟨b, q, none⟩ ⟨a, r, none⟩ _ (by have := h.ab; simp <;> omega)).trans (h.cn r hr), fun r hr => by simpa using h.fn r hr, fun r hr => ?_, fun r hr => by simpa using h.fl r hr, h.pa, h.pb, h.ab, h.n1, h.n2, h.m1, h.m2⟩
  by_cases e : r = q
  · subst e
    rw [upd, if_pos rfl]
    exact World.cell?_setCell_same w _ _ (h.cl r hr)
  · rw [upd, if_neg e]
    exact (World.cell?_setCell_other w ⟨b, q, none⟩ ⟨b, r, none⟩ _ (by simp <;> omega)).trans (h.cl r hr)
end

/-- Is a number one of N, from 0 on? -/
def inB (N : Nat) (i : Int) : Bool := decide (0 ≤ i) && decide (i < (N : Int))
theorem inB_nat {N : Nat} {i : Int} (h : inB N i = true) : ∃ k : Nat, i = (k : Int) ∧ k < N := by
  simp [inB] at h
  exact ⟨i.toNat, by omega, by omega⟩
theorem inB_of {N k : Nat} (h : k < N) : inB N (k : Int) = true := by simp [inB]; omega
/-- What is asked of a number. -/
def ask (N : Nat) (F : Nat → Int) (c : Nat) (d i : Int) : Int := if inB N i = true then F (i.toNat * 3 + c) else d

theorem within_any (n a c : Int) (w : World) :
    Calls Try.prog 78 #[.int .i64 n, .int .i64 a, .int .i64 c] w (B1 (decide (a ≤ n) && decide (n ≤ c)) w) := by
  by_cases h1 : a ≤ n
  · have d1 : decide (a ≤ n) = true := by simp [h1]
    go_enter Try.func78, Try.ntmps78
    go_wp2
    go_ret
    refine ⟨?_, rfl⟩
    simp [h1]
  · have d1 : decide (a ≤ n) = false := by simp [h1]
    go_enter Try.func78, Try.ntmps78
    go_wp2
    go_ret
    refine ⟨?_, rfl⟩
    simp

section
variable {w : World} {p a b N M : Nat} {F G : Nat → Int}
theorem hasList_any (h : Rm w p a b N M F G) (i : Int) :
    Calls Try.prog 83 #[.pointer (some ⟨p, 0, none⟩), .int .i64 i] w (B1 (inB M i) w) := by
  have h0 := h.lists
  have m1 := h.m1
  have m2 := h.m2
  have hw : IntKind.i64.wrap ((M : Int) - 1) = (M : Int) - 1 := IntWalk.i64_in _ (by omega)
  have e : (decide (0 ≤ i) && decide (i ≤ (M : Int) - 1)) = inB M i := by unfold inB; congr 1; simp; omega
  clear h
  go_enter Try.func83, Try.ntmps83
  go_wp2_with fail
  refine (within_any i 0 ((M : Int) - 1) w).mono ?_
  rw [e]
  rintro e w' ⟨rfl, rfl⟩
  go_wp2
  go_ret
  exact ⟨rfl, rfl⟩
theorem hasNode_any (h : Rm w p a b N M F G) (i : Int) :
    Calls Try.prog 89 #[.pointer (some ⟨p, 0, none⟩), .int .i64 i] w (B1 (inB N i) w) := by
  have h0 := h.nodes
  have m1 := h.n1
  have m2 := h.n2
  have hw : IntKind.i64.wrap ((N : Int) - 1) = (N : Int) - 1 := IntWalk.i64_in _ (by omega)
  have e : (decide (0 ≤ i) && decide (i ≤ (N : Int) - 1)) = inB N i := by unfold inB; congr 1; simp; omega
  clear h
  go_enter Try.func89, Try.ntmps89
  go_wp2_with fail
  refine (within_any i 0 ((N : Int) - 1) w).mono ?_
  rw [e]
  rintro e w' ⟨rfl, rfl⟩
  go_wp2
  go_ret
  exact ⟨rfl, rfl⟩
theorem first_any (h : Rm w p a b N M F G) (i : Int) :
    Calls Try.prog 61 #[.pointer (some ⟨p, 0, none⟩), .int .i64 i] w (R1 (ask M G 0 (-1) i) w) := by
  have HL := Lib.hid (hasList_any h i)
  cases hq : inB M i with
  | false =>
    have e : ask M G 0 (-1) i = -1 := by unfold ask; rw [hq]; rfl
    rw [hq] at HL
    rw [e]
    clear e hq h
    go_enter Try.func61, Try.ntmps61
    go_wp2_with fail
    refine HL.out.mono ?_
    rintro e w' ⟨rfl, rfl⟩
    go_wp2
    go_ret
    exact ⟨rfl, rfl⟩
  | true =>
    obtain ⟨k, rfl, hk⟩ := inB_nat hq
    have e : ask M G 0 (-1) (k : Int) = G (k * 3) := by unfold ask; rw [hq]; rfl
    rw [hq] at HL
    rw [e]
    have h0 := h.lists
    have h1 := h.cl (k * 3) (by omega)
    clear e hq h
    go_enter Try.func61, Try.ntmps61
    go_wp2_with fail
    refine HL.out.mono ?_
    rintro e w' ⟨rfl, rfl⟩
    go_wp2
    go_ret
    exact ⟨rfl, rfl⟩
end
end Go.Proofs.Ytfkegbipfekbdaa.Rn
