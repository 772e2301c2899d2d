import Derived.Test.YtijkigibcpgciaaZGE
/-
  Package ring: Push, met by contracts, over the cells alone.
-/
namespace Go.Proofs.Ytijkigibcpgciaa.Rn
open Go.ChangeShapes Go.WideShapes Go.ChangeAt Go.RowKit
set_option maxRecDepth 100000

section
variable {w : World} {p a b N M : Nat} {F G : Nat → Int}
theorem push_arg (h : Rm w p a b N M F G) (i n : Int) (hq : ¬ (inB M i = true ∧ inB N n = true)) :
    Calls Try.prog 69 #[.pointer (some ⟨p, 0, none⟩), .int .i64 i, .int .i64 n] w (R1 1 w) := by
  have HL := Lib.hid (hasList_any h i)
  have HN := Lib.hid (hasNode_any h n)
  cases h1 : inB M i with
  | false =>
    rw [h1] at HL
    clear hq h h1 HN
    go_enter Try.func69, Try.ntmps69
    go_wp2_with fail
    refine HL.out.mono ?_
    rintro e w' ⟨rfl, rfl⟩
    go_wp2
    go_ret
    exact ⟨rfl, rfl⟩
  | true =>
    have h2 : inB N n = false := by
      cases h2 : inB N n with
      | false => rfl
      | true => exact absurd ⟨h1, h2⟩ hq
    rw [h1] at HL
    rw [h2] at HN
    clear hq h h1 h2
    go_enter Try.func69, Try.ntmps69
    go_wp2_with fail
    refine HL.out.mono ?_
    rintro e w' ⟨rfl, rfl⟩
    go_wp2_with fail
    refine HN.out.mono ?_
    rintro e w' ⟨rfl, rfl⟩
    go_wp2
    go_ret
    exact ⟨rfl, rfl⟩
theorem push_there (h : Rm w p a b N M F G) (i n : Nat) (hi : i < M) (hn : n < N) (hf : F (n * 3 + 2) ≠ -1) :
    Calls Try.prog 69 #[.pointer (some ⟨p, 0, none⟩), .int .i64 (i : Int), .int .i64 (n : Int)] w (R1 10 w) := by
  have HL := Lib.hid (hasList_any h i)
  have HN := Lib.hid (hasNode_any h n)
  rw [inB_of hi] at HL
  rw [inB_of hn] at HN
  have c0 := h.nodes
  have c1 := h.cn (n * 3 + 2) (by omega)
  have n2 := h.n2
  have e1 : (F (n * 3 + 2) != -1) = true := by simpa using hf
  clear h hf
  go_enter Try.func69, Try.ntmps69
  go_wp2_with fail
  refine HL.out.mono ?_
  rintro e w' ⟨rfl, rfl⟩
  go_wp2_with fail
  refine HN.out.mono ?_
  rintro e w' ⟨rfl, rfl⟩
  go_wp2
  go_ret
  exact ⟨rfl, rfl⟩
/-- The nodes behind a push, and the lists. -/
def pushF (F G : Nat → Int) (i n : Nat) : Nat → Int := joinF (joinF (upd F (n * 3 + 2) i) n (G (i * 3))) (-1) n
def pushG (G : Nat → Int) (i n : Nat) : Nat → Int := upd (joinG (joinG G i n (G (i * 3))) i (-1) n) (i * 3 + 2) (G (i * 3 + 2) + 1)
theorem joinG_count (G : Nat → Int) (i : Nat) (x y : Int) : joinG G i x y (i * 3 + 2) = G (i * 3 + 2) := by
  unfold joinG upd
  have h1 : ¬ i * 3 + 2 = i * 3 := by omega
  have h2 : ¬ i * 3 + 2 = i * 3 + 1 := by omega
  by_cases e1 : x = -1 <;> by_cases e2 : y = -1 <;> simp [e1, e2]
theorem push_ok (h : Rm w p a b N M F G) (i n : Nat) (hi : i < M) (hn : n < N) (hf : F (n * 3 + 2) = -1) (hg : orNone N (G (i * 3))) (hc : 0 ≤ G (i * 3 + 2) ∧ G (i * 3 + 2) ≤ 1000000) :
    Calls Try.prog 69 #[.pointer (some ⟨p, 0, none⟩), .int .i64 (i : Int), .int .i64 (n : Int)] w fun e w' => e = .returned (.int .i64 0) ∧ Rm w' p a b N M (pushF F G i n) (pushG G i n) ∧ But (Own a b) w w' := by
  have HL := Lib.hid (hasList_any h i)
  have HN := Lib.hid (hasNode_any h n)
  rw [inB_of hi] at HL
  rw [inB_of hn] at HN
  have c0 := h.nodes
  have c1 := h.cn (n * 3 + 2) (by omega)
  have n2 := h.n2
  have m2 := h.m2
  have f1 := h.fn (n * 3 + 2) (by omega)
  have h2 := h.setN (q := n * 3 + 2) (by omega) (i : Int)
  have e1 : (F (n * 3 + 2) != -1) = false := by rw [hf]; rfl
  have d0 := h2.lists
  have d1 := h2.cl (i * 3) (by omega)
  have HJ := Lib.hid (join_any h2 i hi n (G (i * 3)) (Or.inr ⟨n, rfl, hn⟩) hg)
  have B2 := Lib.hid ((But.refl (Own a b) w).setCell (p := ⟨a, n * 3 + 2, none⟩) (fun _ => Or.inl rfl) (.int .i64 (i : Int)))
  have HC := Lib.hid hc
  have HG := Lib.hid hg
  clear h h2 hf hc hg
  go_enter Try.func69, Try.ntmps69
  go_wp2_with fail
  refine HL.out.mono ?_
  rintro e w' ⟨rfl, rfl⟩
  go_wp2_with fail
  refine HN.out.mono ?_
  rintro e w' ⟨rfl, rfl⟩
  go_wp2_with fail
  refine HJ.out.mono ?_
  rintro e w3 ⟨rfl, r3, b3⟩
  have HJ2 := Lib.hid (join_any r3 i hi (-1) n (Or.inl rfl) (Or.inr ⟨n, rfl, hn⟩))
  have B3 := Lib.hid (B2.out.trans b3)
  clear r3 b3 HJ c0 c1 d0 d1 f1
  go_wp2_with fail
  refine HJ2.out.mono ?_
  rintro e w4 ⟨rfl, r4, b4⟩
  have c0 := r4.lists
  have c1 := r4.cl (i * 3 + 2) (by omega)
  have f1 := r4.fl (i * 3 + 2) (by omega)
  have hcount : joinG (joinG G i n (G (i * 3))) i (-1) n (i * 3 + 2) = G (i * 3 + 2) := by rw [joinG_count, joinG_count]
  rw [hcount] at c1
  have hw : IntKind.i64.wrap (G (i * 3 + 2) + 1) = G (i * 3 + 2) + 1 := IntWalk.i64_in _ (by have := HC.out; omega)
  have R5 := Lib.hid (r4.setL (q := i * 3 + 2) (by omega) (G (i * 3 + 2) + 1))
  have B5 := Lib.hid ((B3.out.trans b4).setCell (p := ⟨b, i * 3 + 2, none⟩) (fun _ => Or.inr rfl) (.int .i64 (G (i * 3 + 2) + 1)))
  clear r4 b4 HJ2
  go_wp2
  go_ret
  exact ⟨rfl, R5.out, B5.out⟩
end
end Go.Proofs.Ytijkigibcpgciaa.Rn
