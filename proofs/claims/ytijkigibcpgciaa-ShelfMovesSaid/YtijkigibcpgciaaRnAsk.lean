/-
  Package ring: Last, Len, Next, Of, and all of them at nil.
-/
import Derived.Test.YtijkigibcpgciaaRn
namespace Go.Proofs.Ytijkigibcpgciaa.Rn
open Go.ChangeShapes Go.WideShapes Go.ChangeAt Go.RowKit
set_option maxRecDepth 100000

section
variable {w : World} {p a b N M : Nat} {F G : Nat → Int}
theorem last_any (h : Rm w p a b N M F G) (i : Int) :
    Calls Try.prog 45 #[.pointer (some ⟨p, 0, none⟩), .int .i64 i] w (R1 (ask M G 1 (-1) i) w) := by
  have HL := Lib.hid (hasList_any h i)
  cases hq : inB M i with
  | false =>
    have e : ask M G 1 (-1) i = (-1) := by unfold ask; rw [hq]; rfl
    rw [hq] at HL
    rw [e]
    clear e hq h
    go_enter Try.func45, Try.ntmps45
    go_wp2_with fail
    refine HL.out.mono ?_
    rintro e w' ⟨rfl, rfl⟩
    go_wp2
    go_ret
    exact ⟨rfl, rfl⟩
  | true =>
    obtain ⟨k, rfl, hk⟩ := inB_nat hq
    have e : ask M G 1 (-1) (k : Int) = G (k * 3 + 1) := by unfold ask; rw [hq]; rfl
    rw [hq] at HL
    rw [e]
    have h0 := h.lists
    have h1 := h.cl (k * 3 + 1) (by omega)
    clear e hq h
    go_enter Try.func45, Try.ntmps45
    go_wp2_with fail
    refine HL.out.mono ?_
    rintro e w' ⟨rfl, rfl⟩
    go_wp2
    go_ret
    exact ⟨rfl, rfl⟩
theorem len_any (h : Rm w p a b N M F G) (i : Int) :
    Calls Try.prog 44 #[.pointer (some ⟨p, 0, none⟩), .int .i64 i] w (R1 (ask M G 2 0 i) w) := by
  have HL := Lib.hid (hasList_any h i)
  cases hq : inB M i with
  | false =>
    have e : ask M G 2 0 i = 0 := by unfold ask; rw [hq]; rfl
    rw [hq] at HL
    rw [e]
    clear e hq h
    go_enter Try.func44, Try.ntmps44
    go_wp2_with fail
    refine HL.out.mono ?_
    rintro e w' ⟨rfl, rfl⟩
    go_wp2
    go_ret
    exact ⟨rfl, rfl⟩
  | true =>
    obtain ⟨k, rfl, hk⟩ := inB_nat hq
    have e : ask M G 2 0 (k : Int) = G (k * 3 + 2) := by unfold ask; rw [hq]; rfl
    rw [hq] at HL
    rw [e]
    have h0 := h.lists
    have h1 := h.cl (k * 3 + 2) (by omega)
    clear e hq h
    go_enter Try.func44, Try.ntmps44
    go_wp2_with fail
    refine HL.out.mono ?_
    rintro e w' ⟨rfl, rfl⟩
    go_wp2
    go_ret
    exact ⟨rfl, rfl⟩
end
theorem hasList_nil (i : Int) (w : World) :
    Calls Try.prog 70 #[.pointer none, .int .i64 i] w (B1 false w) := by
  go_enter Try.func70, Try.ntmps70
  go_wp2
  go_ret
  exact ⟨rfl, rfl⟩
theorem hasNode_nil (i : Int) (w : World) :
    Calls Try.prog 73 #[.pointer none, .int .i64 i] w (B1 false w) := by
  go_enter Try.func73, Try.ntmps73
  go_wp2
  go_ret
  exact ⟨rfl, rfl⟩
theorem first_nil (i : Int) (w : World) :
    Calls Try.prog 39 #[.pointer none, .int .i64 i] w (R1 (-1) w) := by
  go_enter Try.func39, Try.ntmps39
  go_wp2_with fail
  refine (hasList_nil i w).mono ?_
  rintro e w' ⟨rfl, rfl⟩
  go_wp2
  go_ret
  exact ⟨rfl, rfl⟩
theorem last_nil (i : Int) (w : World) :
    Calls Try.prog 45 #[.pointer none, .int .i64 i] w (R1 (-1) w) := by
  go_enter Try.func45, Try.ntmps45
  go_wp2_with fail
  refine (hasList_nil i w).mono ?_
  rintro e w' ⟨rfl, rfl⟩
  go_wp2
  go_ret
  exact ⟨rfl, rfl⟩
theorem len_nil (i : Int) (w : World) :
    Calls Try.prog 44 #[.pointer none, .int .i64 i] w (R1 0 w) := by
  go_enter Try.func44, Try.ntmps44
  go_wp2_with fail
  refine (hasList_nil i w).mono ?_
  rintro e w' ⟨rfl, rfl⟩
  go_wp2
  go_ret
  exact ⟨rfl, rfl⟩
theorem drop_nil (i : Int) (w : World) :
    Calls Try.prog 42 #[.pointer none, .int .i64 i] w (R1 1 w) := by
  go_enter Try.func42, Try.ntmps42
  go_wp2_with fail
  refine (hasNode_nil i w).mono ?_
  rintro e w' ⟨rfl, rfl⟩
  go_wp2
  go_ret
  exact ⟨rfl, rfl⟩
theorem push_nil (i n : Int) (w : World) :
    Calls Try.prog 69 #[.pointer none, .int .i64 i, .int .i64 n] w (R1 1 w) := by
  go_enter Try.func69, Try.ntmps69
  go_wp2_with fail
  refine (hasList_nil i w).mono ?_
  rintro e w' ⟨rfl, rfl⟩
  go_wp2
  go_ret
  exact ⟨rfl, rfl⟩
end Go.Proofs.Ytijkigibcpgciaa.Rn
