/-
  The laws' common beginning (almerylaw16.awake), met by a contract: ten bytes over two pages; it returns true, and leaves all memory that was there as it was.
-/
import Derived.Test.YtmamihlilgmnaaaChainCut
import Derived.Laws.StructEq
namespace Go.Proofs.Ytmamihlilgmnaaa
open Go.ChangeShapes Go.WideShapes Go.ChangeAt Go.RowKit Go.Deep

theorem cut_awake : cutI 60 10 64 = [⟨0, 60, 4⟩, ⟨1, 0, 6⟩] := by
  have h : mayCut ((60 : Nat) : Int) ((10 : Nat) : Int) ((64 : Nat) : Int) := by unfold mayCut; omega
  have e : cutI ((60 : Nat) : Int) ((10 : Nat) : Int) ((64 : Nat) : Int) = cutL 64 (60 + 10) 60 := cutI_on h
  have n1 : nxt 64 (60 + 10) 60 = 64 := by decide
  have n2 : nxt 64 (60 + 10) 64 = 70 := by decide
  rw [cutL_step (by omega) (by omega), n1, cutL_step (by omega) (by omega), n2, cutL_done (by omega)] at e
  exact e.trans rfl
theorem eql_spans (A B C : Int) (v : World) : (binOp .eql 29 (.agg #[.int .i64 A, .int .i64 B, .int .i64 C]) (.agg #[.int .i64 A, .int .i64 B, .int .i64 C])).run Try.prog v = .ok (.bool true) v := by
  have hf : Try.prog.underlying 29 = some (.struct (Try.prog.fieldsOf 29)) := by kernel_rfl
  simp [go_sem, run_eql_struct, run_equalIn_struct _ _ _ _ _ hf (by kernel_rfl)]

set_option maxRecDepth 20000 in
theorem awake16_any (w : World) : Calls Try.prog 7 #[] w (BB true w) := by
  have HC := Lib.hid (cut_any 60 10 64 w (by omega) (by omega) (by omega))
  rw [cut_awake] at HC
  have e1 : many 65 64 = 2 := by decide
  have e2 : allOf 65 64 = 3 := by decide
  have e3 : allOf 0 64 = 0 := by decide
  have HD := Lib.hid (fun v => data_any 65 64 v (by omega))
  have HA := Lib.hid (fun v => all_any 65 64 v (by omega))
  have H0 := Lib.hid (fun v => all_any 0 64 v (by omega))
  rw [e1] at HD
  rw [e2] at HA
  rw [e3] at H0
  clear e1 e2 e3
  have q1 := eql_spans 0 60 4
  have q2 := eql_spans 1 0 6
  go_enter Try.func7, Try.ntmps7
  go_wp2_with fail
  refine HC.out.mono ?_
  rintro e w1 ⟨a, c, rfl, hs, b1⟩
  have hlen : ([⟨0, 60, 4⟩, ⟨1, 0, 6⟩] : List Sp).length = 2 := rfl
  rw [hlen] at hs ⊢
  obtain ⟨b, o, rfl, _, x0, x1, x2⟩ := hs.at3 (i := 0) rfl
  obtain ⟨b', o', e, _, y0, y1, y2⟩ := hs.at3 (i := 1) rfl
  injection e with e
  injection e with e1 e2
  subst e1 e2
  replace x0 : w1.cell? ⟨b, o, none⟩ = some (.int .i64 0) := x0
  replace x1 : w1.cell? ⟨b, o + 1, none⟩ = some (.int .i64 60) := x1
  replace x2 : w1.cell? ⟨b, o + 2, none⟩ = some (.int .i64 4) := x2
  replace y0 : w1.cell? ⟨b, o + 3, none⟩ = some (.int .i64 1) := y0
  replace y1 : w1.cell? ⟨b, o + 3 + 1, none⟩ = some (.int .i64 0) := y1
  replace y2 : w1.cell? ⟨b, o + 3 + 2, none⟩ = some (.int .i64 6) := y2
  have B1 := Lib.hid b1
  clear hs b1 HC
  go_wp2_with fail
  refine (HD.out _).mono ?_
  rintro e w2 ⟨rfl, f2⟩
  have B2 := Lib.hid (belowT B1.out f2.below)
  clear f2
  go_wp2_with fail
  refine (HA.out _).mono ?_
  rintro e w3 ⟨rfl, f3⟩
  have B3 := Lib.hid (belowT B2.out f3.below)
  clear f3
  go_wp2_with fail
  refine (H0.out _).mono ?_
  rintro e w4 ⟨rfl, f4⟩
  have B4 := Lib.hid (belowT B3.out f4.below)
  clear f4
  go_wp2
  go_ret
  exact ⟨rfl, B4.out⟩
end Go.Proofs.Ytmamihlilgmnaaa
