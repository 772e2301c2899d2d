import Derived.Test.YtijkigibcpgciaaZRnPush
import Derived.Test.YtijkigibcpgciaaZGA
/-
  Package ring: Drop, met by contracts, over the cells alone.
-/
namespace Go.Proofs.Ytijkigibcpgciaa.Rn
open Go.ChangeShapes Go.WideShapes Go.ChangeAt Go.RowKit
set_option maxRecDepth 100000

section
variable {w : World} {p a b N M : Nat} {F G : Nat → Int}
theorem drop_arg (h : Rm w p a b N M F G) (n : Int) (hq : inB N n = false) :
    Calls Try.prog 42 #[.pointer (some ⟨p, 0, none⟩), .int .i64 n] w (R1 1 w) := by
  have HN := Lib.hid (hasNode_any h n)
  rw [hq] at HN
  clear hq h
  go_enter Try.func42, Try.ntmps42
  go_wp2_with fail
  refine HN.out.mono ?_
  rintro e w' ⟨rfl, rfl⟩
  go_wp2
  go_ret
  exact ⟨rfl, rfl⟩
theorem drop_none (h : Rm w p a b N M F G) (n : Nat) (hn : n < N) (hf : F (n * 3 + 2) = -1) :
    Calls Try.prog 42 #[.pointer (some ⟨p, 0, none⟩), .int .i64 (n : Int)] w (IB 9 w) := by
  have HN := Lib.hid (hasNode_any h n)
  rw [inB_of hn] at HN
  have c0 := h.nodes
  have c1 := h.cn (n * 3) (by omega)
  have c2 := h.cn (n * 3 + 1) (by omega)
  have c3 := h.cn (n * 3 + 2) (by omega)
  have n2 := h.n2
  have e1 : (F (n * 3 + 2) == -1) = true := by rw [hf]; rfl
  clear h hf
  go_enter Try.func42, Try.ntmps42
  go_wp2_with fail
  refine HN.out.mono ?_
  rintro e w' ⟨rfl, rfl⟩
  go_wp2
  go_ret
  exact ⟨rfl, below1 _ _⟩
theorem loose_rm (h : Rm w p a b N M F G) :
    Calls Try.prog 56 #[] w fun e w' => e = .returned (.agg #[.int .i64 (-1), .int .i64 (-1), .int .i64 (-1)]) ∧ Rm w' p a b N M F G ∧ Below w.heap.size w w' := by
  refine (loose_any w).mono ?_
  rintro e w' ⟨rfl, rfl⟩
  exact ⟨rfl, h.below (below1 w _), below1 w _⟩
/-- The nodes behind a drop, and the lists. -/
def dropF (F : Nat → Int) (n : Nat) : Nat → Int := upd (upd (upd (joinF F (F (n * 3)) (F (n * 3 + 1))) (n * 3) (-1)) (n * 3 + 1) (-1)) (n * 3 + 2) (-1)
def dropG (F G : Nat → Int) (i n : Nat) : Nat → Int := upd (joinG G i (F (n * 3)) (F (n * 3 + 1))) (i * 3 + 2) (G (i * 3 + 2) - 1)
theorem drop_ok (h : Rm w p a b N M F G) (i n : Nat) (hi : i < M) (hn : n < N) (hf : F (n * 3 + 2) = (i : Int)) (h0 : orNone N (F (n * 3))) (h1 : orNone N (F (n * 3 + 1))) (hc : 0 ≤ G (i * 3 + 2) ∧ G (i * 3 + 2) ≤ 1000000) :
    Calls Try.prog 42 #[.pointer (some ⟨p, 0, none⟩), .int .i64 (n : Int)] w fun e w' => e = .returned (.int .i64 0) ∧ Rm w' p a b N M (dropF F n) (dropG F G i n) ∧ But (Own a b) w w' := by
  have HN := Lib.hid (hasNode_any h n)
  rw [inB_of hn] at HN
  have c0 := h.nodes
  have c1 := h.cn (n * 3) (by omega)
  have c2 := h.cn (n * 3 + 1) (by omega)
  have c3 := h.cn (n * 3 + 2) (by omega)
  have n2 := h.n2
  have m2 := h.m2
  rw [hf] at c3
  have e1 : ((i : Int) == -1) = false := beq_eq_false_iff_ne.2 (by omega)
  obtain ⟨x, hx⟩ : ∃ x, x = F (n * 3) := ⟨_, rfl⟩
  obtain ⟨y, hy⟩ : ∃ y, y = F (n * 3 + 1) := ⟨_, rfl⟩
  rw [← hx] at c1 h0
  rw [← hy] at c2 h1
  have HJ := Lib.hid (join_any (h.below (below1 w (.cells #[.int .i64 x, .int .i64 y, .int .i64 (i : Int)] 106))) i hi x y h0 h1)
  have HC := Lib.hid hc
  have HX := Lib.hid hx
  have HY := Lib.hid hy
  have HF := Lib.hid hf
  have HS := Lib.hid (show w.heap.size ≠ a ∧ w.heap.size ≠ b by have := h.asize; have := h.bsize; omega)
  have B0 := Lib.hid ((But.refl (Own a b) w).alloc (.cells #[.int .i64 x, .int .i64 y, .int .i64 (i : Int)] 106))
  have own : (w.alloc (.cells #[.int .i64 x, .int .i64 y, .int .i64 (i : Int)] 106)).cell? ⟨w.heap.size, 2, none⟩ = some (.int .i64 (i : Int)) := by go_simp
  have HO := Lib.hid own
  clear h hf h0 h1 hc hx hy own
  go_enter Try.func42, Try.ntmps42
  go_wp2_with fail
  refine HN.out.mono ?_
  rintro e w' ⟨rfl, rfl⟩
  go_wp2_with fail
  refine HJ.out.mono ?_
  rintro e w3 ⟨rfl, r3, b3⟩
  have g0 := (b3.cell (p := ⟨w.heap.size, 2, none⟩) (by simp) (fun e => by have := HS.out; rcases e with e | e; exact this.1 e; exact this.2 e)).trans HO.out
  have d0 := r3.lists
  have d1 := r3.cl (i * 3 + 2) (by omega)
  have f1 := r3.fl (i * 3 + 2) (by omega)
  rw [joinG_count] at d1
  have hw : IntKind.i64.wrap (G (i * 3 + 2) - 1) = G (i * 3 + 2) - 1 := IntWalk.i64_in _ (by have := HC.out; omega)
  have R4 := Lib.hid ((r3.setL (q := i * 3 + 2) (by omega) (G (i * 3 + 2) - 1)).drew)
  have B4 := Lib.hid (((B0.out.trans b3).setCell (p := ⟨b, i * 3 + 2, none⟩) (fun _ => Or.inr rfl) (.int .i64 (G (i * 3 + 2) - 1))).drew)
  clear r3 b3 HJ c0 c1 c2 c3
  go_wp2_with fail
  go_region
  generalize (w3.setCell ⟨b, i * 3 + 2, none⟩ (.int .i64 (G (i * 3 + 2) - 1))).drew = w4 at R4 B4 ⊢
  clear g0 d0 d1 f1 hw
  have c0 := R4.out.nodes
  have c1 := R4.out.cn (n * 3) (by omega)
  have c2 := R4.out.cn (n * 3 + 1) (by omega)
  have c3 := R4.out.cn (n * 3 + 2) (by omega)
  have f1 := R4.out.fn (n * 3) (by omega)
  have f2 := R4.out.fn (n * 3 + 1) (by omega)
  have f3 := R4.out.fn (n * 3 + 2) (by omega)
  go_wp2_with fail
  go_region_with (go_at_call 56; refine (loose_rm R4.out.drew).mono ?_; rintro e w5 ⟨rfl, r5, b5⟩; have q0 := r5.nodes; have q1 := r5.cn (n * 3) (by omega); have q2 := r5.cn (n * 3 + 1) (by omega); have q3 := r5.cn (n * 3 + 2) (by omega); have g1 := r5.fn (n * 3) (by omega); have g2 := r5.fn (n * 3 + 1) (by omega); have g3 := r5.fn (n * 3 + 2) (by omega))
  all_goals
    have R6 := Lib.hid (((r5.setN (q := n * 3) (by omega) (-1)).setN (q := n * 3 + 1) (by omega) (-1)).setN (q := n * 3 + 2) (by omega) (-1))
    have B6 := Lib.hid ((((B4.out.drew.trans (Below.but b5 (Own a b))).setCell (p := ⟨a, n * 3, none⟩) (fun _ => Or.inl rfl) (.int .i64 (-1))).setCell (p := ⟨a, n * 3 + 1, none⟩) (fun _ => Or.inl rfl) (.int .i64 (-1))).setCell (p := ⟨a, n * 3 + 2, none⟩) (fun _ => Or.inl rfl) (.int .i64 (-1)))
    clear r5 b5 q0 q1 q2 q3 g1 g2 g3
    go_wp2
    go_ret
    refine ⟨rfl, ?_, B6.out⟩
    unfold dropF dropG
    rw [← HX.out, ← HY.out]
    exact R6.out
end
end Go.Proofs.Ytijkigibcpgciaa.Rn
