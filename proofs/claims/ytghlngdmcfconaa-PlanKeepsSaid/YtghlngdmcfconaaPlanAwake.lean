/-
  The law's awake: three pages.
-/
import Derived.Test.YtghlngdmcfconaaPlanMoves
namespace Go.Proofs.Ytghlngdmcfconaa
open Go.ChangeShapes Go.WideShapes Go.ChangeAt Go.RowKit Go.Deep

theorem next3a : nextL 3 [1, 2, 1] = [2, 2] := by
  have := nextL_eq 3 1 [2] 1
  simpa [ends] using this
theorem next3b : nextL 3 [2, 2] = [1] := by
  have := nextL_eq 3 2 [] 2
  simpa [ends] using this
theorem sm3 : Sm 3 [1, 2, 1] := ⟨by simp, by omega, by decide⟩
theorem moves3 : movesN 3 0 [1, 2, 1] = 2 := by
  rw [movesN_step (by omega) (by decide) (by decide), next3a, movesN_step (by omega) (by decide) (by decide), next3b, movesN_off (by decide)]
  rfl
theorem ints3 (w : World) : Ints (w.alloc (.cells #[.int .i64 1, .int .i64 2, .int .i64 1] 3)) (w.alloc (.cells #[.int .i64 1, .int .i64 2, .int .i64 1] 3)).heap.size (some ⟨w.heap.size, 0, none⟩) 3 [1, 2, 1] := by
  refine ⟨rfl, by omega, fun x hx => ?_, fun _ => ⟨w.heap.size, 0, rfl, by simp, fun k s hs => ?_⟩⟩
  · simp at hx
    omega
  · rw [Nat.zero_add, World.cell?_alloc_at _ _ _ _ rfl]
    match k, hs with
    | 0, hs => simp at hs; subst hs; rfl
    | 1, hs => simp at hs; subst hs; rfl
    | 2, hs => simp at hs; subst hs; rfl

set_option maxRecDepth 20000 in
set_option maxHeartbeats 1000000 in
theorem awake14_any (w : World) : Calls Try.prog 8 #[] w (BB true w) := by
  have I0 := Lib.hid (ints3 w)
  have HN : Hid (∀ v, Ints v v.heap.size (some ⟨w.heap.size, 0, none⟩) 3 [1, 2, 1] → Calls Try.prog 15 #[.slice (some ⟨w.heap.size, 0, none⟩) 3 3, .int .i64 3] v (Lists [2, 2] v)) := Lib.hid fun v hv => by
    have := next_any (some ⟨w.heap.size, 0, none⟩) 3 3 [1, 2, 1] 3 v hv sm3
    rwa [next3a] at this
  have HM1 : Hid (∀ v, Ints v v.heap.size (some ⟨w.heap.size, 0, none⟩) 3 [1, 2, 1] → Calls Try.prog 9 #[.slice (some ⟨w.heap.size, 0, none⟩) 3 3, .int .i64 3] v (B1 true v)) := Lib.hid fun v hv => may_any _ 3 3 [1, 2, 1] 3 _ v hv
  have HM2 : Hid (∀ v, Ints v v.heap.size (some ⟨w.heap.size, 0, none⟩) 3 [1, 2, 1] → Calls Try.prog 9 #[.slice (some ⟨w.heap.size, 0, none⟩) 3 3, .int .i64 2] v (B1 false v)) := Lib.hid fun v hv => may_any _ 3 3 [1, 2, 1] 2 _ v hv
  have HD1 : Hid (∀ v, Calls Try.prog 11 #[.int .i64 2, .int .i64 0] v (B1 true v)) := Lib.hid fun v => due_any 2 0 v (by omega) (by omega)
  have HD2 : Hid (∀ v, Calls Try.prog 11 #[.int .i64 1, .int .i64 0] v (B1 false v)) := Lib.hid fun v => due_any 1 0 v (by omega) (by omega)
  have HV : Hid (∀ v, Ints v v.heap.size (some ⟨w.heap.size, 0, none⟩) 3 [1, 2, 1] → Calls Try.prog 17 #[.slice (some ⟨w.heap.size, 0, none⟩) 3 3, .int .i64 3, .int .i64 0] v (IB 2 v)) := Lib.hid fun v hv => by
    have := moves_any _ 3 3 [1, 2, 1] 3 0 v hv sm3 (by omega)
    rwa [moves3] at this
  have B0 := Lib.hid (below1 w (.cells #[.int .i64 1, .int .i64 2, .int .i64 1] 3))
  go_enter Try.func8, Try.ntmps8
  go_wp2_with fail
  refine (HN.out _ I0.out).mono ?_
  rintro e w1 ⟨a1, c1, rfl, i1, b1⟩
  obtain ⟨g, o, rfl, hg, hc⟩ := i1.head (by simp)
  have c0 : w1.cell? ⟨g, o, none⟩ = some (.int .i64 2) := hc 0 2 rfl
  have cc1 : w1.cell? ⟨g, o + 1, none⟩ = some (.int .i64 2) := hc 1 2 rfl
  have I1 := Lib.hid (I0.out.on b1)
  have B1' := Lib.hid (belowT B0.out b1)
  clear i1 b1 hc hg
  go_wp2_with fail
  refine (HM1.out _ I1.out).mono ?_
  rintro e w2 ⟨rfl, rfl⟩
  go_wp2_with fail
  refine (HM2.out _ I1.out).mono ?_
  rintro e w2 ⟨rfl, rfl⟩
  go_wp2_with fail
  refine (HD1.out _).mono ?_
  rintro e w2 ⟨rfl, rfl⟩
  go_wp2_with fail
  refine (HD2.out _).mono ?_
  rintro e w2 ⟨rfl, rfl⟩
  go_wp2_with fail
  refine (HV.out _ I1.out).mono ?_
  rintro e w2 ⟨rfl, b2⟩
  have B2 := Lib.hid (belowT B1'.out b2)
  clear b2
  go_wp2
  go_ret
  exact ⟨rfl, B2.out⟩
end Go.Proofs.Ytghlngdmcfconaa
