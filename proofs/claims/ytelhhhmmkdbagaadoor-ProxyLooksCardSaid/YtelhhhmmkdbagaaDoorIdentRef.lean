/-
  The document's own answers for package ident (almeryref09), met by contracts: whatever ints come in, they return the plain numbers, and leave all as it was.
-/
import Derived.Test.YtelhhhmmkdbagaaDoorIdent
namespace Go.Proofs.YtelhhhmmkdbagaaDoor
open Go.ChangeShapes Go.WideShapes Go.ChangeAt Go.RowKit

theorem refJoin_any (x y : Int) (w : World) : Calls Tryd.prog 29 #[.int .i64 x, .int .i64 y] w fun e w' => e = .returned (.tuple #[.int .i64 (joinN x y), .int .i64 (joinE x y)]) ∧ w = w' := by
  by_cases h1 : x < 0
  · obtain ⟨e1, e2⟩ := join_off (mayB_off (x := x) (y := y) (by omega))
    rw [e1, e2]
    have d1 : decide (x < 0) = true := by simpa using h1
    clear e1 e2
    go_enter Tryd.func29, Tryd.ntmps29
    go_wp2
    go_ret2
    exact ⟨rfl, rfl⟩
  · have d1 : decide (x < 0) = false := by simpa using h1
    by_cases h2 : 4095 < x
    · obtain ⟨e1, e2⟩ := join_off (mayB_off (x := x) (y := y) (by omega))
      rw [e1, e2]
      have d2 : decide (4095 < x) = true := by simpa using h2
      clear e1 e2
      go_enter Tryd.func29, Tryd.ntmps29
      go_wp2
      go_ret2
      exact ⟨rfl, rfl⟩
    · have d2 : decide (4095 < x) = false := by simpa using h2
      by_cases h3 : y < 1
      · obtain ⟨e1, e2⟩ := join_off (mayB_off (x := x) (y := y) (by omega))
        rw [e1, e2]
        have d3 : decide (y < 1) = true := by simpa using h3
        clear e1 e2
        go_enter Tryd.func29, Tryd.ntmps29
        go_wp2
        go_ret2
        exact ⟨rfl, rfl⟩
      · have d3 : decide (y < 1) = false := by simpa using h3
        by_cases h4 : 1023 < y
        · obtain ⟨e1, e2⟩ := join_off (mayB_off (x := x) (y := y) (by omega))
          rw [e1, e2]
          have d4 : decide (1023 < y) = true := by simpa using h4
          clear e1 e2
          go_enter Tryd.func29, Tryd.ntmps29
          go_wp2
          go_ret2
          exact ⟨rfl, rfl⟩
        · obtain ⟨e1, e2⟩ := join_on (mayB_on (x := x) (y := y) (by omega))
          rw [e1, e2]
          have d4 : decide (1023 < y) = false := by simpa using h4
          have hw : IntKind.i64.wrap (4096 * y) = 4096 * y := IntWalk.i64_in _ (by omega)
          have hw2 : IntKind.i64.wrap (4096 * y + x) = 4096 * y + x := IntWalk.i64_in _ (by omega)
          clear e1 e2
          go_enter Tryd.func29, Tryd.ntmps29
          go_wp2
          go_ret2
          exact ⟨rfl, rfl⟩

theorem refSplit_any (h : Int) (w : World) (l1 : -9223372036854775808 ≤ h) (l2 : h ≤ 9223372036854775807) : Calls Tryd.prog 23 #[.int .i64 h] w fun e w' => e = .returned (.tuple #[.int .i64 (splitS h), .int .i64 (splitG h), .int .i64 (splitE h)]) ∧ w = w' := by
  by_cases h1 : h < 4096
  · obtain ⟨e1, e2, e3⟩ := split_off (h := h) (decide_eq_false (by omega))
    rw [e1, e2, e3]
    have d1 : decide (h < 4096) = true := by simpa using h1
    clear e1 e2 e3
    go_enter Tryd.func23, Tryd.ntmps23
    go_wp2
    go_ret3
    exact ⟨rfl, rfl⟩
  · have d1 : decide (h < 4096) = false := by simpa using h1
    by_cases h2 : 4194304 ≤ h
    · obtain ⟨e1, e2, e3⟩ := split_off (h := h) (decide_eq_false (by omega))
      rw [e1, e2, e3]
      have d2 : decide (4194304 ≤ h) = true := by simpa using h2
      clear e1 e2 e3
      go_enter Tryd.func23, Tryd.ntmps23
      go_wp2
      go_ret3
      exact ⟨rfl, rfl⟩
    · have d2 : decide (4194304 ≤ h) = false := by simpa using h2
      obtain ⟨e1, e2, e3⟩ := split_on (h := h) (decide_eq_true (by omega))
      obtain ⟨s, hs⟩ : ∃ s, h % 4096 = s := ⟨_, rfl⟩
      obtain ⟨g, hg⟩ : ∃ g, h / 4096 = g := ⟨_, rfl⟩
      have hs2 : h.tmod 4096 = s := by rw [Int.tmod_eq_emod_of_nonneg (by omega), hs]
      have hg2 : h.tdiv 4096 = g := by rw [Int.tdiv_eq_ediv_of_nonneg (by omega), hg]
      have hw : IntKind.i64.wrap g = g := IntWalk.i64_in _ (by omega)
      rw [e1, e2, e3, hs, hg]
      clear e1 e2 e3
      go_enter Tryd.func23, Tryd.ntmps23
      go_wp2
      go_ret3
      exact ⟨rfl, rfl⟩
end Go.Proofs.YtelhhhmmkdbagaaDoor
