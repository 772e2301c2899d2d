/-
  The document's Moves (almeryref14), of few counts that may be: move by move.
-/
import Derived.Test.YtghlngdmcfconaaPlanRef
namespace Go.Proofs.Ytghlngdmcfconaa
open Go.ChangeShapes Go.WideShapes Go.ChangeAt Go.RowKit Go.Deep

/-- What a move makes less. -/
def wt (xs : List Int) : Nat := 20 * xs.length + (xs.getLastD 0).toNat
theorem wt_le {b : Int} {xs : List Int} (h : Sm b xs) : wt xs ≤ 20 * xs.length + 19 := by
  have hb := h.blk
  unfold wt
  rcases List.eq_nil_or_concat xs with rfl | ⟨ys, z, rfl⟩
  · simp
  · rw [List.concat_eq_append, List.getLastD_concat]
    have := mayL_iff.1 h.may z (by simp)
    omega
theorem wt_next {b : Int} {xs : List Int} (h : Sm b xs) (h2 : 2 ≤ xs.length) : wt (nextL b xs) < wt xs := by
  obtain ⟨x, mid, y, rfl⟩ := two_ends h2
  obtain ⟨hx, hm, hy⟩ := may_parts h.may
  have e0 : wt (x :: (mid ++ [y])) = 20 * (mid.length + 2) + y.toNat := by
    unfold wt
    rw [last_of]
    simp
  have hn := wt_le h.next
  rw [e0]
  by_cases hy1 : y - 1 = 0
  · have hl : (nextL b (x :: (mid ++ [y]))).length ≤ mid.length + 1 := by
      rw [nextL_eq, ends_length, if_pos (c := y - 1 = 0) hy1]
      split <;> omega
    omega
  · have hl : (nextL b (x :: (mid ++ [y]))).length ≤ mid.length + 2 := by
      rw [nextL_eq, ends_length, if_neg (c := y - 1 = 0) hy1]
      split <;> omega
    have e1 : (nextL b (x :: (mid ++ [y]))).getLastD 0 = y - 1 := by
      rw [nextL_eq, ends, if_neg (c := y - 1 = 0) hy1, ← List.append_assoc, List.getLastD_concat]
    unfold wt
    rw [e1]
    omega

/-- How far the moves have come. -/
structure Rm (w : World) (b k : Int) (xs0 : List Int) (v : Value) (cnt : Nat) (wr : World) : Prop where
  st : ∃ (a : Option Addr) (c : Nat) (xs : List Int), v = .slice a xs.length c ∧ Ints wr wr.heap.size a xs.length xs ∧ Sm b xs ∧ mv b k xs0 = (mv b k xs).map (· + (cnt : Int)) ∧ cnt + wt xs ≤ wt xs0
  below : Below w.heap.size w wr

set_option maxRecDepth 100000 in
set_option maxHeartbeats 2000000 in
theorem refMoves_any (a : Option Addr) (n c : Nat) (xs : List Int) (b k : Int) (w : World) (h : Ints w w.heap.size a n xs) (hs : Sm b xs) (hk : -9223372036854775808 ≤ k ∧ k ≤ 9223372036854775807) :
    Calls Try.prog 18 #[.slice a n c, .int .i64 b, .int .i64 k] w (IB (movesN b k xs) w) := by
  have hl := h.len
  have h12 := hs.len
  have hw0 := wt_le hs
  have N0 : Hid (Rm w b k xs (.slice a n c) 0 w) := Lib.hid ⟨⟨a, c, xs, by rw [hl], by rw [hl]; exact h, hs, by simp, by omega⟩, Below.refl _ _⟩
  have DU : Hid (∀ (l : List Int), l.length ≤ 12 → ∀ v, Calls Try.prog 12 #[.int .i64 (l.length : Int), .int .i64 k] v (B1 (dueB l.length k) v)) := Lib.hid fun l hl v => refDue_any _ k v (by omega) hk
  clear h hs
  go_enter Try.func18, Try.ntmps18
  go_wp2
  go_loopw [0, 7] (fun v i wr => ∃ cnt : Nat, cnt ≤ 260 ∧ i = .int .i64 (cnt : Int) ∧ Hid (Rm w b k xs v cnt wr)) (fun _ i _ => 300 - (intOf i).toNat)
  case atStart => exact ⟨0, by omega, rfl, N0⟩
  case round =>
    obtain ⟨cnt, hcnt, rfl, HS⟩ := hrel
    clear N0
    obtain ⟨a2, c2, ys, rfl, i2, s2, m2, t2⟩ := HS.out.st
    have hbel := HS.out.below
    have D := Lib.hid (DU.out ys s2.len)
    have l12 := s2.len
    cases hd : dueB ys.length k with
    | false =>
      rw [hd] at D
      have E : Hid (movesN b k xs = (cnt : Int)) := Lib.hid (by
        rw [movesN, m2, mv_off hd]
        show 0 + (cnt : Int) = cnt
        omega)
      have HB := Lib.hid hbel
      clear m2 hd s2 i2 HS hbel
      go_wp2_with fail
      refine (D.out _).mono ?_
      rintro e w1 ⟨rfl, rfl⟩
      go_wp2
      go_ret
      exact ⟨congrArg (fun z => Ending.returned (Value.int .i64 z)) E.out.symm, HB.out⟩
    | true =>
      rw [hd] at D
      by_cases h2 : ys.length < 2
      · have E : Hid (movesN b k xs = 0) := Lib.hid (by
          rw [movesN, m2, mv_never hd h2]
          rfl)
        have HB := Lib.hid hbel
        have d2 : decide ((ys.length : Int) < 2) = true := decide_eq_true (by omega)
        clear m2 hd s2 i2 HS hbel
        go_wp2_with fail
        refine (D.out _).mono ?_
        rintro e w1 ⟨rfl, rfl⟩
        go_wp2
        go_ret
        exact ⟨congrArg (fun z => Ending.returned (Value.int .i64 z)) E.out.symm, HB.out⟩
      · have d2 : decide ((ys.length : Int) < 2) = false := decide_eq_false (by omega)
        have HN := Lib.hid (refNext_any a2 ys.length c2 ys b wr i2 s2)
        have NX : Hid (∀ a3 c3 w3, Ints w3 w3.heap.size a3 (nextL b ys).length (nextL b ys) → Below wr.heap.size wr w3 → Rm w b k xs (.slice a3 (nextL b ys).length c3) (cnt + 1) w3) := Lib.hid fun a3 c3 w3 i3 b3 =>
          ⟨⟨a3, c3, nextL b ys, rfl, i3, s2.next, by
            rw [m2, mv_step s2.may hd (by omega), Option.map_map]
            congr 1
            funext i
            show i + 1 + (cnt : Int) = i + ((cnt + 1 : Nat) : Int)
            omega, by have := wt_next s2 (by omega); omega⟩, belowT hbel b3⟩
        have hc2 : cnt + 1 ≤ 260 := by have := wt_next s2 (by omega); omega
        clear m2 hd s2 i2 HS hbel
        go_wp2_with fail
        refine (D.out _).mono ?_
        rintro e w1 ⟨rfl, rfl⟩
        go_wp2_with fail
        refine HN.out.mono ?_
        rintro e w3 ⟨a3, c3, rfl, i3, b3⟩
        have E := Lib.hid (NX.out a3 c3 w3 i3 b3)
        clear i3 b3 NX HN
        generalize nextL b ys = zs at *
        go_wp2
        go_roundw
        case rel => exact ⟨cnt + 1, hc2, by go_num, E⟩
        case measure => simp [intOf]; omega
end Go.Proofs.Ytghlngdmcfconaa
