/-
  Package ring: Last, Len, Next, Of, and all of them at nil.
-/
import Derived.Test.YtakecddjpdiojaaRing
namespace Go.Proofs.Ytakecddjpdiojaa
open Go.ChangeShapes Go.WideShapes Go.ChangeAt Go.RowKit

section
variable {w : World} {p a b N M : Nat} {F G : Nat → Int}
theorem last_any (h : Rm w p a b N M F G) (i : Int) :
    Calls Try.prog 21 #[.pointer (some ⟨p, 0, none⟩), .int .i64 i] w (R1 (ask M G 1 (-1) i) w) := by
  have HL := Lib.hid (hasList_any h i)
  cases hq : inB M i with
  | false =>
    have e : ask M G 1 (-1) i = (-1) := by unfold ask; rw [hq]; rfl
    rw [hq] at HL
    rw [e]
    clear e hq h
    go_enter Try.func21, Try.ntmps21
    go_wp2_with fail
    refine HL.out.mono ?_
    rintro e w' ⟨rfl, rfl⟩
    go_wp2
    go_ret
    exact ⟨rfl, rfl⟩
  | true =>
    obtain ⟨k, rfl, hk⟩ := inB_nat hq
    have e : ask M G 1 (-1) (k : Int) = G (k * 3 + 1) := by unfold ask; rw [hq]; rfl
    rw [hq] at HL
    rw [e]
    have h0 := h.lists
    have h1 := h.cl (k * 3 + 1) (by omega)
    clear e hq h
    go_enter Try.func21, Try.ntmps21
    go_wp2_with fail
    refine HL.out.mono ?_
    rintro e w' ⟨rfl, rfl⟩
    go_wp2
    go_ret
    exact ⟨rfl, rfl⟩
theorem len_any (h : Rm w p a b N M F G) (i : Int) :
    Calls Try.prog 14 #[.pointer (some ⟨p, 0, none⟩), .int .i64 i] w (R1 (ask M G 2 0 i) w) := by
  have HL := Lib.hid (hasList_any h i)
  cases hq : inB M i with
  | false =>
    have e : ask M G 2 0 i = 0 := by unfold ask; rw [hq]; rfl
    rw [hq] at HL
    rw [e]
    clear e hq h
    go_enter Try.func14, Try.ntmps14
    go_wp2_with fail
    refine HL.out.mono ?_
    rintro e w' ⟨rfl, rfl⟩
    go_wp2
    go_ret
    exact ⟨rfl, rfl⟩
  | true =>
    obtain ⟨k, rfl, hk⟩ := inB_nat hq
    have e : ask M G 2 0 (k : Int) = G (k * 3 + 2) := by unfold ask; rw [hq]; rfl
    rw [hq] at HL
    rw [e]
    have h0 := h.lists
    have h1 := h.cl (k * 3 + 2) (by omega)
    clear e hq h
    go_enter Try.func14, Try.ntmps14
    go_wp2_with fail
    refine HL.out.mono ?_
    rintro e w' ⟨rfl, rfl⟩
    go_wp2
    go_ret
    exact ⟨rfl, rfl⟩
theorem next_any (h : Rm w p a b N M F G) (i : Int) :
    Calls Try.prog 18 #[.pointer (some ⟨p, 0, none⟩), .int .i64 i] w (R1 (ask N F 1 (-1) i) w) := by
  have HL := Lib.hid (hasNode_any h i)
  cases hq : inB N i with
  | false =>
    have e : ask N F 1 (-1) i = (-1) := by unfold ask; rw [hq]; rfl
    rw [hq] at HL
    rw [e]
    clear e hq h
    go_enter Try.func18, Try.ntmps18
    go_wp2_with fail
    refine HL.out.mono ?_
    rintro e w' ⟨rfl, rfl⟩
    go_wp2
    go_ret
    exact ⟨rfl, rfl⟩
  | true =>
    obtain ⟨k, rfl, hk⟩ := inB_nat hq
    have e : ask N F 1 (-1) (k : Int) = F (k * 3 + 1) := by unfold ask; rw [hq]; rfl
    rw [hq] at HL
    rw [e]
    have h0 := h.nodes
    have h1 := h.cn (k * 3 + 1) (by omega)
    clear e hq h
    go_enter Try.func18, Try.ntmps18
    go_wp2_with fail
    refine HL.out.mono ?_
    rintro e w' ⟨rfl, rfl⟩
    go_wp2
    go_ret
    exact ⟨rfl, rfl⟩
theorem of_any (h : Rm w p a b N M F G) (i : Int) :
    Calls Try.prog 15 #[.pointer (some ⟨p, 0, none⟩), .int .i64 i] w (R1 (ask N F 2 (-1) i) w) := by
  have HL := Lib.hid (hasNode_any h i)
  cases hq : inB N i with
  | false =>
    have e : ask N F 2 (-1) i = (-1) := by unfold ask; rw [hq]; rfl
    rw [hq] at HL
    rw [e]
    clear e hq h
    go_enter Try.func15, Try.ntmps15
    go_wp2_with fail
    refine HL.out.mono ?_
    rintro e w' ⟨rfl, rfl⟩
    go_wp2
    go_ret
    exact ⟨rfl, rfl⟩
  | true =>
    obtain ⟨k, rfl, hk⟩ := inB_nat hq
    have e : ask N F 2 (-1) (k : Int) = F (k * 3 + 2) := by unfold ask; rw [hq]; rfl
    rw [hq] at HL
    rw [e]
    have h0 := h.nodes
    have h1 := h.cn (k * 3 + 2) (by omega)
    clear e hq h
    go_enter Try.func15, Try.ntmps15
    go_wp2_with fail
    refine HL.out.mono ?_
    rintro e w' ⟨rfl, rfl⟩
    go_wp2
    go_ret
    exact ⟨rfl, rfl⟩
end
theorem hasList_nil (i : Int) (w : World) :
    Calls Try.prog 28 #[.pointer none, .int .i64 i] w (B1 false w) := by
  go_enter Try.func28, Try.ntmps28
  go_wp2
  go_ret
  exact ⟨rfl, rfl⟩
theorem hasNode_nil (i : Int) (w : World) :
    Calls Try.prog 29 #[.pointer none, .int .i64 i] w (B1 false w) := by
  go_enter Try.func29, Try.ntmps29
  go_wp2
  go_ret
  exact ⟨rfl, rfl⟩
theorem first_nil (i : Int) (w : World) :
    Calls Try.prog 17 #[.pointer none, .int .i64 i] w (R1 (-1) w) := by
  go_enter Try.func17, Try.ntmps17
  go_wp2_with fail
  refine (hasList_nil i w).mono ?_
  rintro e w' ⟨rfl, rfl⟩
  go_wp2
  go_ret
  exact ⟨rfl, rfl⟩
theorem last_nil (i : Int) (w : World) :
    Calls Try.prog 21 #[.pointer none, .int .i64 i] w (R1 (-1) w) := by
  go_enter Try.func21, Try.ntmps21
  go_wp2_with fail
  refine (hasList_nil i w).mono ?_
  rintro e w' ⟨rfl, rfl⟩
  go_wp2
  go_ret
  exact ⟨rfl, rfl⟩
theorem len_nil (i : Int) (w : World) :
    Calls Try.prog 14 #[.pointer none, .int .i64 i] w (R1 0 w) := by
  go_enter Try.func14, Try.ntmps14
  go_wp2_with fail
  refine (hasList_nil i w).mono ?_
  rintro e w' ⟨rfl, rfl⟩
  go_wp2
  go_ret
  exact ⟨rfl, rfl⟩
theorem next_nil (i : Int) (w : World) :
    Calls Try.prog 18 #[.pointer none, .int .i64 i] w (R1 (-1) w) := by
  go_enter Try.func18, Try.ntmps18
  go_wp2_with fail
  refine (hasNode_nil i w).mono ?_
  rintro e w' ⟨rfl, rfl⟩
  go_wp2
  go_ret
  exact ⟨rfl, rfl⟩
theorem of_nil (i : Int) (w : World) :
    Calls Try.prog 15 #[.pointer none, .int .i64 i] w (R1 (-1) w) := by
  go_enter Try.func15, Try.ntmps15
  go_wp2_with fail
  refine (hasNode_nil i w).mono ?_
  rintro e w' ⟨rfl, rfl⟩
  go_wp2
  go_ret
  exact ⟨rfl, rfl⟩
theorem drop_nil (i : Int) (w : World) :
    Calls Try.prog 20 #[.pointer none, .int .i64 i] w (R1 1 w) := by
  go_enter Try.func20, Try.ntmps20
  go_wp2_with fail
  refine (hasNode_nil i w).mono ?_
  rintro e w' ⟨rfl, rfl⟩
  go_wp2
  go_ret
  exact ⟨rfl, rfl⟩
theorem push_nil (i n : Int) (w : World) :
    Calls Try.prog 16 #[.pointer none, .int .i64 i, .int .i64 n] w (R1 1 w) := by
  go_enter Try.func16, Try.ntmps16
  go_wp2_with fail
  refine (hasList_nil i w).mono ?_
  rintro e w' ⟨rfl, rfl⟩
  go_wp2
  go_ret
  exact ⟨rfl, rfl⟩
end Go.Proofs.Ytakecddjpdiojaa
