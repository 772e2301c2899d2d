/-
  Package ring: join (one node behind another one, or at an end), loose (a node in no list).
-/
import Derived.Test.YtijkigibcpgciaaRn
namespace Go.Proofs.Ytijkigibcpgciaa.Rn
open Go.ChangeShapes Go.WideShapes Go.ChangeAt Go.RowKit
set_option maxRecDepth 100000

/-- The nodes behind a join. -/
def joinF (F : Nat → Int) (x y : Int) : Nat → Int :=
  let F1 := if x = -1 then F else upd F (x.toNat * 3 + 1) y
  if y = -1 then F1 else upd F1 (y.toNat * 3) x
/-- The lists behind a join. -/
def joinG (G : Nat → Int) (i : Nat) (x y : Int) : Nat → Int :=
  let G1 := if x = -1 then upd G (i * 3) y else G
  if y = -1 then upd G1 (i * 3 + 1) x else G1
/-- A node, or none. -/
def orNone (N : Nat) (x : Int) : Prop := x = -1 ∨ ∃ k : Nat, x = (k : Int) ∧ k < N

section
variable {w : World} {p a b N M : Nat} {F G : Nat → Int}
theorem join_any (h : Rm w p a b N M F G) (i : Nat) (hi : i < M) (x y : Int) (hx : orNone N x) (hy : orNone N y) :
    Calls Try.prog 74 #[.pointer (some ⟨p, 0, none⟩), .int .i64 (i : Int), .int .i64 x, .int .i64 y] w fun e w' => e = .returned (.tuple #[]) ∧ Rm w' p a b N M (joinF F x y) (joinG G i x y) ∧ But (Own a b) w w' := by
  have HW := Lib.hid h
  have n2 := h.n2
  have m2 := h.m2
  rcases hx with rfl | ⟨k, rfl, hk⟩
  · rcases hy with rfl | ⟨l, rfl, hl⟩
    · have h2 := h.setL (q := i * 3) (by omega) (-1)
      have h3 := h2.setL (q := i * 3 + 1) (by omega) (-1)
      have c0 := h.lists
      have c1 := h.cl (i * 3) (by omega)
      have c2 := h.cl (i * 3 + 1) (by omega)
      have f1 := h.fl (i * 3) (by omega)
      have f2 := h.fl (i * 3 + 1) (by omega)
      have d0 := h2.lists
      have R := Lib.hid h3
      have B := Lib.hid (((But.refl (Own a b) w).setCell (p := ⟨b, i * 3, none⟩) (fun _ => Or.inr rfl) (.int .i64 (-1))).setCell (p := ⟨b, i * 3 + 1, none⟩) (fun _ => Or.inr rfl) (.int .i64 (-1)))
      clear h h2 h3
      go_enter Try.func74, Try.ntmps74
      go_wp2
      go_end0
      exact ⟨rfl, by simpa [joinF, joinG] using R.out, B.out⟩
    · have h2 := h.setL (q := i * 3) (by omega) (l : Int)
      have h3 := h2.setN (q := l * 3) (by omega) (-1)
      have c0 := h.lists
      have c1 := h.cl (i * 3) (by omega)
      have c2 := h2.cn (l * 3) (by omega)
      have f1 := h.fl (i * 3) (by omega)
      have f2 := h.fn (l * 3) (by omega)
      have d0 := h2.nodes
      have R := Lib.hid h3
      have el : ((l : Int) == -1) = false := beq_eq_false_iff_ne.2 (by omega)
      have B := Lib.hid (((But.refl (Own a b) w).setCell (p := ⟨b, i * 3, none⟩) (fun _ => Or.inr rfl) (.int .i64 (l : Int))).setCell (p := ⟨a, l * 3, none⟩) (fun _ => Or.inl rfl) (.int .i64 (-1)))
      clear h h2 h3
      go_enter Try.func74, Try.ntmps74
      go_wp2
      go_end0
      refine ⟨rfl, ?_, B.out⟩
      have e : ¬ (l : Int) = -1 := by omega
      simpa [joinF, joinG, e] using R.out
  · have ek : ((k : Int) == -1) = false := beq_eq_false_iff_ne.2 (by omega)
    have e0 : ¬ (k : Int) = -1 := by omega
    rcases hy with rfl | ⟨l, rfl, hl⟩
    · have h2 := h.setN (q := k * 3 + 1) (by omega) (-1)
      have h3 := h2.setL (q := i * 3 + 1) (by omega) (k : Int)
      have c0 := h.nodes
      have c1 := h.cn (k * 3 + 1) (by omega)
      have c2 := h2.cl (i * 3 + 1) (by omega)
      have f1 := h.fn (k * 3 + 1) (by omega)
      have f2 := h.fl (i * 3 + 1) (by omega)
      have d0 := h2.lists
      have R := Lib.hid h3
      have B := Lib.hid (((But.refl (Own a b) w).setCell (p := ⟨a, k * 3 + 1, none⟩) (fun _ => Or.inl rfl) (.int .i64 (-1))).setCell (p := ⟨b, i * 3 + 1, none⟩) (fun _ => Or.inr rfl) (.int .i64 (k : Int)))
      have E := Lib.hid e0
      clear h h2 h3 e0
      go_enter Try.func74, Try.ntmps74
      go_wp2
      go_end0
      refine ⟨rfl, ?_, B.out⟩
      have e := E.out
      simpa [joinF, joinG, e] using R.out
    · have h2 := h.setN (q := k * 3 + 1) (by omega) (l : Int)
      have h3 := h2.setN (q := l * 3) (by omega) (k : Int)
      have c0 := h.nodes
      have c1 := h.cn (k * 3 + 1) (by omega)
      have c2 := h2.cn (l * 3) (by omega)
      have f1 := h.fn (k * 3 + 1) (by omega)
      have f2 := h.fn (l * 3) (by omega)
      have d0 := h2.nodes
      have el : ((l : Int) == -1) = false := beq_eq_false_iff_ne.2 (by omega)
      have R := Lib.hid h3
      have B := Lib.hid (((But.refl (Own a b) w).setCell (p := ⟨a, k * 3 + 1, none⟩) (fun _ => Or.inl rfl) (.int .i64 (l : Int))).setCell (p := ⟨a, l * 3, none⟩) (fun _ => Or.inl rfl) (.int .i64 (k : Int)))
      have E := Lib.hid e0
      clear h h2 h3 e0
      go_enter Try.func74, Try.ntmps74
      go_wp2
      go_end0
      refine ⟨rfl, ?_, B.out⟩
      have e := E.out
      have e2 : ¬ (l : Int) = -1 := by omega
      simpa [joinF, joinG, e, e2] using R.out
end

theorem loose_any (w : World) :
    Calls Try.prog 56 #[] w fun e w' => e = .returned (.agg #[.int .i64 (-1), .int .i64 (-1), .int .i64 (-1)]) ∧ w' = w.alloc (.cells #[.int .i64 (-1), .int .i64 (-1), .int .i64 (-1)] 106) := by
  go_enter Try.func56, Try.ntmps56
  go_wp2
  refine bodyPost_ret (v := .agg #[.int .i64 (-1), .int .i64 (-1), .int .i64 (-1)]) (by simp [results, Try.results56, go_sem]) rfl ?_
  exact ⟨rfl, rfl⟩
end Go.Proofs.Ytijkigibcpgciaa.Rn
