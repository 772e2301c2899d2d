import Derived.Test.YtfkegbipfekbdaaZRn
import Derived.Test.YtfkegbipfekbdaaZPgBits
/-
  Package ring: join (one node behind another one, or at an end), loose (a node in no list).
-/
namespace Go.Proofs.Ytfkegbipfekbdaa.Rn
open Go.ChangeShapes Go.WideShapes Go.ChangeAt Go.RowKit
set_option maxRecDepth 100000

/-- The nodes behind a join. -/
def joinF (F : Nat → Int) (x y : Int) : Nat → Int :=
  let F1 := if x = -1 then F else upd F (x.toNat * 3 + 1) y
  if y = -1 then F1 else upd F1 (y.toNat * 3) x
/-- The lists behind a join. -/
def joinG (G : Nat → Int) (i : Nat) (x y : Int) : Nat → Int :=
  let G1 := if x = -1 then upd G (i * 3) y else G
  if y = -1 then upd G1 (i * 3 + 1) x else G1
/-- A node, or none. -/
def orNone (N : Nat) (x : Int) : Prop := x = -1 ∨ ∃ k : Nat, x = (k : Int) ∧ k < N

section
variable {w : World} {p a b N M : Nat} {F G : Nat → Int}
theorem join_any (h : Rm w p a b N M F G) (i : Nat) (hi : i < M) (x y : Int) (hx : orNone N x) (hy : orNone N y) :
    Calls Try.prog 90 #[.pointer (some ⟨p, 0, none⟩), .int .i64 (i : Int), .int .i64 x, .int .i64 y] w fun e w' => e = .returned (.tuple #[]) ∧ Rm w' p a b N M (joinF F x y) (joinG G i x y) ∧ But (Own a b) w w' := by
  have HW := Lib.hid h
  have n2 := h.n2
  have m2 := h.m2
  rcases hx with rfl | ⟨k, rfl, hk⟩
  · rcases hy with rfl | ⟨l, rfl, hl⟩
    · have h2 := h.setL (q := i * 3) (by omega) (-1)
      have h3 := h2.setL (q := i * 3 + 1) (by omega) (-1)
      have c0 := h.lists
      have c1 := h.cl (i * 3) (by omega)
      have c2 := h.cl (i * 3 + 1) (by omega)
      have f1 := h.fl (i * 3) (by omega)
      have f2 := h.fl (i * 3 + 1) (by omega)
      have d0 := h2.lists
      have R := Lib.hid h3
      have B := Lib.hid (((But.refl (Own a b) w).setCell (p := ⟨b, i * 3, none⟩) (fun _ => Or.inr rfl) (.int .i64 (-1))).setCell (p := ⟨b, i * 3 + 1, none⟩) (fun _ => Or.inr rfl) (.int .i64 (-1)))
      clear h h2 h3
      go_enter Try.func90, Try.ntmps90
      go_wp2
      go_end0
      exact ⟨rfl, by simpa [joinF, joinG] using R.out, B.out⟩
    · have h2 := h.setL (q := i * 3) (by omega) (l : Int)
      have h3 := h2.setN (q := l * 3) (by omega) (-1)
      have c0 := h.lists
      have c1 := h.cl (i * 3) (by omega)
      have c2 := h2.cn (l * 3) (by omega)
      have f1 := h.fl (i * 3) (by omega)
      have f2 := h.fn (l * 3) (by omega)
      have d0 := h2.nodes
      have R := Lib.hid h3
      have el : ((l : Int) == -1) = false := beq_eq_false_iff_ne.2 (by omega)
      have B := Lib.hid (((But.refl (Own a b) w).setCell (p := ⟨b, i * 3, none⟩) (fun _ => Or.inr rfl) (.int .i64 (l : Int))).setCell (p := ⟨a, l * 3, none⟩) (fun _ => Or.inl rfl) (.int .i64 (-1)))
      clear h h2 h3
      go_enter Try.func90, Try.ntmps90
      go_wp2
      go_end0
      refine ⟨rfl, ?_, B.out⟩
      have e : ¬ (l : Int) = -1 := by omega
      simpa [joinF, joinG, e] using R.out
  · have ek : ((k : Int) == -1) = false := beq_eq_false_iff_ne.2 (by omega)
    have e0 : ¬ (k : Int) = -1 := by omega
    rcases hy with rfl | ⟨l, rfl, hl⟩
    · have h2 := h.setN (q := k * 3 + 1) (by omega) (-1)
      have h3 := h2.setL (q := i * 3 + 1) (by omega) (k : Int)
      have c0 := h.nodes
      have c1 := h.cn (k * 3 + 1) (by omega)
      have c2 := h2.cl (i * 3 + 1) (by omega)
      have f1 := h.fn (k * 3 + 1) (by omega)
      have f2 := h.fl (i * 3 + 1) (by omega)
      have d0 := h2.lists
      have R := Lib.hid h3
      have B := Lib.hid (((But.refl (Own a b) w).setCell (p := ⟨a, k * 3 + 1, none⟩) (fun _ => Or.inl rfl) (.int .i64 (-1))).setCell (p := ⟨b, i * 3 + 1, none⟩) (fun _ => Or.inr rfl) (.int .i64 (k : Int)))
      have E := Lib.hid e0
      clear h h2 h3 e0
      go_enter Try.func90, Try.ntmps90
      go_wp2
      go_end0
      refine ⟨rfl, ?_, B.out⟩
      have e := E.out
      simpa [joinF, joinG, e] using R.out
    · have h2 := h.setN (q := k * 3 + 1) (by omega) (l : Int)
      have h3 := h2.setN (q := l * 3) (by omega) (k : Int)
      have c0 := h.nodes
      have c1 := h.cn (k * 3 + 1) (by omega)
      have c2 := h2.cn (l * 3) (by omega)
      have f1 := h.fn (k * 3 + 1) (by omega)
      have f2 := h.fn (l * 3) (by omega)
      have d0 := h2.nodes
      have el : ((l : Int) == -1) = false := beq_eq_false_iff_ne.2 (by omega)
      have R := Lib.hid h3
      have B := Lib.hid (((But.refl (Own a b) w).setCell (p := ⟨a, k * 3 + 1, none⟩) (fun _ => Or.inl rfl) (.int .i64 (l : Int))).setCell (p := ⟨a, l * 3, none⟩) (fun _ => Or.inl rfl) (.int .i64 (k : Int)))
      have E := Lib.hid e0
      clear h h2 h3 e0
      go_enter Try.func90, Try.ntmps90
      go_wp2
      go_end0
      refine ⟨rfl, ?_, B.out⟩
      have e := E.out
      have e2 : ¬ (l : Int) = -1 := by omega
      simpa [joinF, joinG, e, e2] using R.out
end

theorem loose_any (w : World) :
    Calls Try.prog 79 #[] w fun e w' => e = .returned (.agg #[.int .i64 (-1), .int .i64 (-1), .int .i64 (-1)]) ∧ w' = w.alloc (.cells #[.int .i64 (-1), .int .i64 (-1), .int .i64 (-1)] 123) := by
  go_enter Try.func79, Try.ntmps79
  go_wp2
  refine bodyPost_ret (v := .agg #[.int .i64 (-1), .int .i64 (-1), .int .i64 (-1)]) (by simp [results, Try.results79, go_sem]) rfl ?_
  exact ⟨rfl, rfl⟩
end Go.Proofs.Ytfkegbipfekbdaa.Rn
/-
  Package ring: Push, met by contracts, over the cells alone.
-/
namespace Go.Proofs.Ytfkegbipfekbdaa.Rn
open Go.ChangeShapes Go.WideShapes Go.ChangeAt Go.RowKit
set_option maxRecDepth 100000

section
variable {w : World} {p a b N M : Nat} {F G : Nat → Int}
theorem push_arg (h : Rm w p a b N M F G) (i n : Int) (hq : ¬ (inB M i = true ∧ inB N n = true)) :
    Calls Try.prog 86 #[.pointer (some ⟨p, 0, none⟩), .int .i64 i, .int .i64 n] w (R1 1 w) := by
  have HL := Lib.hid (hasList_any h i)
  have HN := Lib.hid (hasNode_any h n)
  cases h1 : inB M i with
  | false =>
    rw [h1] at HL
    clear hq h h1 HN
    go_enter Try.func86, Try.ntmps86
    go_wp2_with fail
    refine HL.out.mono ?_
    rintro e w' ⟨rfl, rfl⟩
    go_wp2
    go_ret
    exact ⟨rfl, rfl⟩
  | true =>
    have h2 : inB N n = false := by
      cases h2 : inB N n with
      | false => rfl
      | true => exact absurd ⟨h1, h2⟩ hq
    rw [h1] at HL
    rw [h2] at HN
    clear hq h h1 h2
    go_enter Try.func86, Try.ntmps86
    go_wp2_with fail
    refine HL.out.mono ?_
    rintro e w' ⟨rfl, rfl⟩
    go_wp2_with fail
    refine HN.out.mono ?_
    rintro e w' ⟨rfl, rfl⟩
    go_wp2
    go_ret
    exact ⟨rfl, rfl⟩
theorem push_there (h : Rm w p a b N M F G) (i n : Nat) (hi : i < M) (hn : n < N) (hf : F (n * 3 + 2) ≠ -1) :
    Calls Try.prog 86 #[.pointer (some ⟨p, 0, none⟩), .int .i64 (i : Int), .int .i64 (n : Int)] w (R1 10 w) := by
  have HL := Lib.hid (hasList_any h i)
  have HN := Lib.hid (hasNode_any h n)
  rw [inB_of hi] at HL
  rw [inB_of hn] at HN
  have c0 := h.nodes
  have c1 := h.cn (n * 3 + 2) (by omega)
  have n2 := h.n2
  have e1 : (F (n * 3 + 2) != -1) = true := by simpa using hf
  clear h hf
  go_enter Try.func86, Try.ntmps86
  go_wp2_with fail
  refine HL.out.mono ?_
  rintro e w' ⟨rfl, rfl⟩
  go_wp2_with fail
  refine HN.out.mono ?_
  rintro e w' ⟨rfl, rfl⟩
  go_wp2
  go_ret
  exact ⟨rfl, rfl⟩
/-- The nodes behind a push, and the lists. -/
def pushF (F G : Nat → Int) (i n : Nat) : Nat → Int := joinF (joinF (upd F (n * 3 + 2) i) n (G (i * 3))) (-1) n
def pushG (G : Nat → Int) (i n : Nat) : Nat → Int := upd (joinG (joinG G i n (G (i * 3))) i (-1) n) (i * 3 + 2) (G (i * 3 + 2) + 1)
theorem joinG_count (G : Nat → Int) (i : Nat) (x y : Int) : joinG G i x y (i * 3 + 2) = G (i * 3 + 2) := by
  unfold joinG upd
  have h1 : ¬ i * 3 + 2 = i * 3 := by omega
  have h2 : ¬ i * 3 + 2 = i * 3 + 1 := by omega
  by_cases e1 : x = -1 <;> by_cases e2 : y = -1 <;> simp [e1, e2]
theorem push_ok (h : Rm w p a b N M F G) (i n : Nat) (hi : i < M) (hn : n < N) (hf : F (n * 3 + 2) = -1) (hg : orNone N (G (i * 3))) (hc : 0 ≤ G (i * 3 + 2) ∧ G (i * 3 + 2) ≤ 1000000) :
    Calls Try.prog 86 #[.pointer (some ⟨p, 0, none⟩), .int .i64 (i : Int), .int .i64 (n : Int)] w fun e w' => e = .returned (.int .i64 0) ∧ Rm w' p a b N M (pushF F G i n) (pushG G i n) ∧ But (Own a b) w w' := by
  have HL := Lib.hid (hasList_any h i)
  have HN := Lib.hid (hasNode_any h n)
  rw [inB_of hi] at HL
  rw [inB_of hn] at HN
  have c0 := h.nodes
  have c1 := h.cn (n * 3 + 2) (by omega)
  have n2 := h.n2
  have m2 := h.m2
  have f1 := h.fn (n * 3 + 2) (by omega)
  have h2 := h.setN (q := n * 3 + 2) (by omega) (i : Int)
  have e1 : (F (n * 3 + 2) != -1) = false := by rw [hf]; rfl
  have d0 := h2.lists
  have d1 := h2.cl (i * 3) (by omega)
  have HJ := Lib.hid (join_any h2 i hi n (G (i * 3)) (Or.inr ⟨n, rfl, hn⟩) hg)
  have B2 := Lib.hid ((But.refl (Own a b) w).setCell (p := ⟨a, n * 3 + 2, none⟩) (fun _ => Or.inl rfl) (.int .i64 (i : Int)))
  have HC := Lib.hid hc
  have HG := Lib.hid hg
  clear h h2 hf hc hg
  go_enter Try.func86, Try.ntmps86
  go_wp2_with fail
  refine HL.out.mono ?_
  rintro e w' ⟨rfl, rfl⟩
  go_wp2_with fail
  refine HN.out.mono ?_
  rintro e w' ⟨rfl, rfl⟩
  go_wp2_with fail
  refine HJ.out.mono ?_
  rintro e w3 ⟨rfl, r3, b3⟩
  have HJ2 := Lib.hid (join_any r3 i hi (-1) n (Or.inl rfl) (Or.inr ⟨n, rfl, hn⟩))
  have B3 := Lib.hid (B2.out.trans b3)
  clear r3 b3 HJ c0 c1 d0 d1 f1
  go_wp2_with fail
  refine HJ2.out.mono ?_
  rintro e w4 ⟨rfl, r4, b4⟩
  have c0 := r4.lists
  have c1 := r4.cl (i * 3 + 2) (by omega)
  have f1 := r4.fl (i * 3 + 2) (by omega)
  have hcount : joinG (joinG G i n (G (i * 3))) i (-1) n (i * 3 + 2) = G (i * 3 + 2) := by rw [joinG_count, joinG_count]
  rw [hcount] at c1
  have hw : IntKind.i64.wrap (G (i * 3 + 2) + 1) = G (i * 3 + 2) + 1 := IntWalk.i64_in _ (by have := HC.out; omega)
  have R5 := Lib.hid (r4.setL (q := i * 3 + 2) (by omega) (G (i * 3 + 2) + 1))
  have B5 := Lib.hid ((B3.out.trans b4).setCell (p := ⟨b, i * 3 + 2, none⟩) (fun _ => Or.inr rfl) (.int .i64 (G (i * 3 + 2) + 1)))
  clear r4 b4 HJ2
  go_wp2
  go_ret
  exact ⟨rfl, R5.out, B5.out⟩
end
end Go.Proofs.Ytfkegbipfekbdaa.Rn
/-
  Package ring: Drop, met by contracts, over the cells alone.
-/
namespace Go.Proofs.Ytfkegbipfekbdaa.Rn
open Go.ChangeShapes Go.WideShapes Go.ChangeAt Go.RowKit
set_option maxRecDepth 100000

section
variable {w : World} {p a b N M : Nat} {F G : Nat → Int}
theorem drop_arg (h : Rm w p a b N M F G) (n : Int) (hq : inB N n = false) :
    Calls Try.prog 64 #[.pointer (some ⟨p, 0, none⟩), .int .i64 n] w (R1 1 w) := by
  have HN := Lib.hid (hasNode_any h n)
  rw [hq] at HN
  clear hq h
  go_enter Try.func64, Try.ntmps64
  go_wp2_with fail
  refine HN.out.mono ?_
  rintro e w' ⟨rfl, rfl⟩
  go_wp2
  go_ret
  exact ⟨rfl, rfl⟩
theorem drop_none (h : Rm w p a b N M F G) (n : Nat) (hn : n < N) (hf : F (n * 3 + 2) = -1) :
    Calls Try.prog 64 #[.pointer (some ⟨p, 0, none⟩), .int .i64 (n : Int)] w (IB 9 w) := by
  have HN := Lib.hid (hasNode_any h n)
  rw [inB_of hn] at HN
  have c0 := h.nodes
  have c1 := h.cn (n * 3) (by omega)
  have c2 := h.cn (n * 3 + 1) (by omega)
  have c3 := h.cn (n * 3 + 2) (by omega)
  have n2 := h.n2
  have e1 : (F (n * 3 + 2) == -1) = true := by rw [hf]; rfl
  clear h hf
  go_enter Try.func64, Try.ntmps64
  go_wp2_with fail
  refine HN.out.mono ?_
  rintro e w' ⟨rfl, rfl⟩
  go_wp2
  go_ret
  exact ⟨rfl, below1 _ _⟩
theorem loose_rm (h : Rm w p a b N M F G) :
    Calls Try.prog 79 #[] w fun e w' => e = .returned (.agg #[.int .i64 (-1), .int .i64 (-1), .int .i64 (-1)]) ∧ Rm w' p a b N M F G ∧ Below w.heap.size w w' := by
  refine (loose_any w).mono ?_
  rintro e w' ⟨rfl, rfl⟩
  exact ⟨rfl, h.below (below1 w _), below1 w _⟩
/-- The nodes behind a drop, and the lists. -/
def dropF (F : Nat → Int) (n : Nat) : Nat → Int := upd (upd (upd (joinF F (F (n * 3)) (F (n * 3 + 1))) (n * 3) (-1)) (n * 3 + 1) (-1)) (n * 3 + 2) (-1)
def dropG (F G : Nat → Int) (i n : Nat) : Nat → Int := upd (joinG G i (F (n * 3)) (F (n * 3 + 1))) (i * 3 + 2) (G (i * 3 + 2) - 1)
theorem drop_ok (h : Rm w p a b N M F G) (i n : Nat) (hi : i < M) (hn : n < N) (hf : F (n * 3 + 2) = (i : Int)) (h0 : orNone N (F (n * 3))) (h1 : orNone N (F (n * 3 + 1))) (hc : 0 ≤ G (i * 3 + 2) ∧ G (i * 3 + 2) ≤ 1000000) :
    Calls Try.prog 64 #[.pointer (some ⟨p, 0, none⟩), .int .i64 (n : Int)] w fun e w' => e = .returned (.int .i64 0) ∧ Rm w' p a b N M (dropF F n) (dropG F G i n) ∧ But (Own a b) w w' := by
  have HN := Lib.hid (hasNode_any h n)
  rw [inB_of hn] at HN
  have c0 := h.nodes
  have c1 := h.cn (n * 3) (by omega)
  have c2 := h.cn (n * 3 + 1) (by omega)
  have c3 := h.cn (n * 3 + 2) (by omega)
  have n2 := h.n2
  have m2 := h.m2
  rw [hf] at c3
  have e1 : ((i : Int) == -1) = false := beq_eq_false_iff_ne.2 (by omega)
  obtain ⟨x, hx⟩ : ∃ x, x = F (n * 3) := ⟨_, rfl⟩
  obtain ⟨y, hy⟩ : ∃ y, y = F (n * 3 + 1) := ⟨_, rfl⟩
  rw [← hx] at c1 h0
  rw [← hy] at c2 h1
  have HJ := Lib.hid (join_any (h.below (below1 w (.cells #[.int .i64 x, .int .i64 y, .int .i64 (i : Int)] 123))) i hi x y h0 h1)
  have HC := Lib.hid hc
  have HX := Lib.hid hx
  have HY := Lib.hid hy
  have HF := Lib.hid hf
  have HS := Lib.hid (show w.heap.size ≠ a ∧ w.heap.size ≠ b by have := h.asize; have := h.bsize; omega)
  have B0 := Lib.hid ((But.refl (Own a b) w).alloc (.cells #[.int .i64 x, .int .i64 y, .int .i64 (i : Int)] 123))
  have own : (w.alloc (.cells #[.int .i64 x, .int .i64 y, .int .i64 (i : Int)] 123)).cell? ⟨w.heap.size, 2, none⟩ = some (.int .i64 (i : Int)) := by go_simp
  have HO := Lib.hid own
  clear h hf h0 h1 hc hx hy own
  go_enter Try.func64, Try.ntmps64
  go_wp2_with fail
  refine HN.out.mono ?_
  rintro e w' ⟨rfl, rfl⟩
  go_wp2_with fail
  refine HJ.out.mono ?_
  rintro e w3 ⟨rfl, r3, b3⟩
  have g0 := (b3.cell (p := ⟨w.heap.size, 2, none⟩) (by simp) (fun e => by have := HS.out; rcases e with e | e; exact this.1 e; exact this.2 e)).trans HO.out
  have d0 := r3.lists
  have d1 := r3.cl (i * 3 + 2) (by omega)
  have f1 := r3.fl (i * 3 + 2) (by omega)
  rw [joinG_count] at d1
  have hw : IntKind.i64.wrap (G (i * 3 + 2) - 1) = G (i * 3 + 2) - 1 := IntWalk.i64_in _ (by have := HC.out; omega)
  have R4 := Lib.hid ((r3.setL (q := i * 3 + 2) (by omega) (G (i * 3 + 2) - 1)).drew)
  have B4 := Lib.hid (((B0.out.trans b3).setCell (p := ⟨b, i * 3 + 2, none⟩) (fun _ => Or.inr rfl) (.int .i64 (G (i * 3 + 2) - 1))).drew)
  clear r3 b3 HJ c0 c1 c2 c3
  go_wp2_with fail
  go_region
  generalize (w3.setCell ⟨b, i * 3 + 2, none⟩ (.int .i64 (G (i * 3 + 2) - 1))).drew = w4 at R4 B4 ⊢
  clear g0 d0 d1 f1 hw
  have c0 := R4.out.nodes
  have c1 := R4.out.cn (n * 3) (by omega)
  have c2 := R4.out.cn (n * 3 + 1) (by omega)
  have c3 := R4.out.cn (n * 3 + 2) (by omega)
  have f1 := R4.out.fn (n * 3) (by omega)
  have f2 := R4.out.fn (n * 3 + 1) (by omega)
  have f3 := R4.out.fn (n * 3 + 2) (by omega)
  go_wp2_with fail
  go_region_with (go_at_call 79; refine (loose_rm R4.out.drew).mono ?_; rintro e w5 ⟨rfl, r5, b5⟩; have q0 := r5.nodes; have q1 := r5.cn (n * 3) (by omega); have q2 := r5.cn (n * 3 + 1) (by omega); have q3 := r5.cn (n * 3 + 2) (by omega); have g1 := r5.fn (n * 3) (by omega); have g2 := r5.fn (n * 3 + 1) (by omega); have g3 := r5.fn (n * 3 + 2) (by omega))
  all_goals
    have R6 := Lib.hid (((r5.setN (q := n * 3) (by omega) (-1)).setN (q := n * 3 + 1) (by omega) (-1)).setN (q := n * 3 + 2) (by omega) (-1))
    have B6 := Lib.hid ((((B4.out.drew.trans (Below.but b5 (Own a b))).setCell (p := ⟨a, n * 3, none⟩) (fun _ => Or.inl rfl) (.int .i64 (-1))).setCell (p := ⟨a, n * 3 + 1, none⟩) (fun _ => Or.inl rfl) (.int .i64 (-1))).setCell (p := ⟨a, n * 3 + 2, none⟩) (fun _ => Or.inl rfl) (.int .i64 (-1)))
    clear r5 b5 q0 q1 q2 q3 g1 g2 g3
    go_wp2
    go_ret
    refine ⟨rfl, ?_, B6.out⟩
    unfold dropF dropG
    rw [← HX.out, ← HY.out]
    exact R6.out
end
end Go.Proofs.Ytfkegbipfekbdaa.Rn
