/-
  Below of package ratio, what it calls, and the document's own answers (Num, minus, Below, Same of package almeryref04), each met by a contract: whatever floats come in, they return the plain tests 'nan', 'neg', 'below', 'same', and leave the memory alone.
-/
import Derived.Test.YtohdhndjbpfliaaRatioNum
import Derived.Test.YtohdhndjbpfliaaFresh
import Derived.Laws.Externs
namespace Go.Proofs.Ytohdhndjbpfliaa
open Go.ChangeShapes Go.WideShapes Go.ChangeAt Go.RowKit

theorem isNaN_any (x : Nat) (w : World) : Calls Try.prog 28 #[.float .f64 x] w (B1 (nan x) w) := by
  rw [← selfN]
  go_enter Try.func28, Try.ntmps28
  go_wp2
  go_ret
  exact ⟨rfl, rfl⟩

theorem num_any (x : Nat) (w : World) : Calls Try.prog 12 #[.float .f64 x] w (B1 (!nan x) w) := by
  rw [← selfB]
  go_enter Try.func12, Try.ntmps12
  go_wp2
  go_ret
  exact ⟨rfl, rfl⟩

/-- Bits as they are. -/
theorem bits_run (x : Nat) (w : World) : (callFunc 21 #[.float .f64 x]).run Try.prog w = .ok (.value (.int .u64 x)) w := by kernel_rfl
theorem from_run (n : Nat) (w : World) : (callFunc 30 #[.int .u64 n]).run Try.prog w = .ok (.value (.float .f64 n)) w := by kernel_rfl

theorem neg_wrap (x : Nat) : decide (wrap64 (x : Int) < 0) = neg x := by
  unfold neg wrap64
  rw [Bool.eq_iff_iff]
  simp only [decide_eq_true_eq, beq_iff_eq]
  omega

theorem signbit_any (x : Nat) (w : World) : Calls Try.prog 29 #[.float .f64 x] w (B1 (neg x) w) := by
  have hb := bits_run x
  rw [← neg_wrap x]
  go_enter Try.func29, Try.ntmps29
  go_wp2
  go_ret
  exact ⟨rfl, rfl⟩

theorem neg_shift {x : Nat} (hx : x < 18446744073709551616) : ((x : Int) / 9223372036854775808 == 1) = neg x := by
  unfold neg
  rw [Bool.eq_iff_iff]
  simp only [beq_iff_eq]
  omega
theorem cast_beq (x y : Nat) : (x == y) = ((x : Int) == (y : Int)) := by
  rw [Bool.eq_iff_iff]
  simp only [beq_iff_eq]
  omega

theorem minus_any (x : Nat) (w : World) (hx : x < 18446744073709551616) : Calls Try.prog 23 #[.float .f64 x] w (B1 (neg x) w) := by
  have hb := bits_run x
  rw [← neg_shift hx]
  go_enter Try.func23, Try.ntmps23
  go_wp2
  go_ret
  exact ⟨rfl, rfl⟩

theorem same_any (x y : Nat) (w : World) : Calls Try.prog 10 #[.float .f64 x, .float .f64 y] w (B1 (same x y) w) := by
  have hb := bits_run x
  have hc := bits_run y
  unfold same
  rw [cast_beq]
  cases nx : nan x
  · rw [Bool.false_and, Bool.false_or]
    go_enter Try.func10, Try.ntmps10
    go_wp2_with fail
    refine (num_any x _).mono ?_
    rintro e w' ⟨rfl, rfl⟩
    go_wp2
    go_ret
    exact ⟨rfl, rfl⟩
  · cases ny : nan y
    · simp only [Bool.and_false, Bool.false_or]
      go_enter Try.func10, Try.ntmps10
      go_wp2_with fail
      refine (num_any x _).mono ?_
      rintro e w' ⟨rfl, rfl⟩
      go_wp2_with fail
      refine (num_any y _).mono ?_
      rintro e w' ⟨rfl, rfl⟩
      go_wp2
      go_ret
      exact ⟨rfl, rfl⟩
    · simp only [Bool.and_true, Bool.true_or]
      go_enter Try.func10, Try.ntmps10
      go_wp2_with fail
      refine (num_any x _).mono ?_
      rintro e w' ⟨rfl, rfl⟩
      go_wp2_with fail
      refine (num_any y _).mono ?_
      rintro e w' ⟨rfl, rfl⟩
      go_wp2
      go_ret
      exact ⟨rfl, rfl⟩

theorem above_any (x y : Nat) (w : World) : Calls Try.prog 22 #[.float .f64 y, .float .f64 x] w (B1 (below x y) w) := by
  cases nx : nan x
  · cases ny : nan y
    · by_cases e : sk x = sk y
      · rw [below_eq nx ny e]
        have he : (FloatKind.f64.format.order x y == some .eq) = true := by rw [eqB, nx, ny]; simp [e]
        clear e
        cases gx : neg x
        · go_enter Try.func22, Try.ntmps22
          go_wp2_with fail
          refine (isNaN_any x _).mono ?_
          rintro e w' ⟨rfl, rfl⟩
          go_wp2_with fail
          refine (isNaN_any y _).mono ?_
          rintro e w' ⟨rfl, rfl⟩
          go_wp2_with fail
          refine (signbit_any x _).mono ?_
          rintro e w' ⟨rfl, rfl⟩
          go_wp2
          go_ret
          exact ⟨rfl, rfl⟩
        · go_enter Try.func22, Try.ntmps22
          go_wp2_with fail
          refine (isNaN_any x _).mono ?_
          rintro e w' ⟨rfl, rfl⟩
          go_wp2_with fail
          refine (isNaN_any y _).mono ?_
          rintro e w' ⟨rfl, rfl⟩
          go_wp2_with fail
          refine (signbit_any x _).mono ?_
          rintro e w' ⟨rfl, rfl⟩
          go_wp2_with fail
          refine (signbit_any y _).mono ?_
          rintro e w' ⟨rfl, rfl⟩
          go_wp2
          go_ret
          exact ⟨rfl, rfl⟩
      · rw [below_ne nx ny e]
        have he : (FloatKind.f64.format.order x y == some .eq) = false := by rw [eqB, nx, ny]; simp [e]
        have hl : decide (sk x < sk y) = (FloatKind.f64.format.order x y == some .lt) := by rw [ltB, nx, ny]; simp
        rw [hl]
        clear e hl
        go_enter Try.func22, Try.ntmps22
        go_wp2_with fail
        refine (isNaN_any x _).mono ?_
        rintro e w' ⟨rfl, rfl⟩
        go_wp2_with fail
        refine (isNaN_any y _).mono ?_
        rintro e w' ⟨rfl, rfl⟩
        go_wp2
        go_ret
        exact ⟨rfl, rfl⟩
    · rw [below_nan2 nx ny]
      go_enter Try.func22, Try.ntmps22
      go_wp2_with fail
      refine (isNaN_any x _).mono ?_
      rintro e w' ⟨rfl, rfl⟩
      go_wp2_with fail
      refine (isNaN_any y _).mono ?_
      rintro e w' ⟨rfl, rfl⟩
      go_wp2
      go_ret
      exact ⟨rfl, rfl⟩
  · rw [below_nan1 nx]
    go_enter Try.func22, Try.ntmps22
    go_wp2_with fail
    refine (isNaN_any x _).mono ?_
    rintro e w' ⟨rfl, rfl⟩
    go_wp2
    go_ret
    exact ⟨rfl, rfl⟩

theorem below_any (x y : Nat) (w : World) : Calls Try.prog 13 #[.float .f64 x, .float .f64 y] w (B1 (below x y) w) := by
  go_enter Try.func13, Try.ntmps13
  go_wp2_with fail
  refine (above_any x y _).mono ?_
  rintro e w' ⟨rfl, rfl⟩
  go_wp2
  go_ret
  exact ⟨rfl, rfl⟩

theorem refBelow_any (x y : Nat) (w : World) (hx : x < 18446744073709551616) (hy : y < 18446744073709551616) : Calls Try.prog 14 #[.float .f64 x, .float .f64 y] w (B1 (below x y) w) := by
  cases nx : nan x
  · cases ny : nan y
    · by_cases e : sk x = sk y
      · rw [below_eq nx ny e]
        have he : (FloatKind.f64.format.order x y == some .eq) = true := by rw [eqB, nx, ny]; simp [e]
        clear e
        cases gx : neg x
        · go_enter Try.func14, Try.ntmps14
          go_wp2_with fail
          refine (num_any x _).mono ?_
          rintro e w' ⟨rfl, rfl⟩
          go_wp2_with fail
          refine (num_any y _).mono ?_
          rintro e w' ⟨rfl, rfl⟩
          go_wp2_with fail
          refine (minus_any x _ hx).mono ?_
          rintro e w' ⟨rfl, rfl⟩
          go_wp2
          go_ret
          exact ⟨rfl, rfl⟩
        · go_enter Try.func14, Try.ntmps14
          go_wp2_with fail
          refine (num_any x _).mono ?_
          rintro e w' ⟨rfl, rfl⟩
          go_wp2_with fail
          refine (num_any y _).mono ?_
          rintro e w' ⟨rfl, rfl⟩
          go_wp2_with fail
          refine (minus_any x _ hx).mono ?_
          rintro e w' ⟨rfl, rfl⟩
          go_wp2_with fail
          refine (minus_any y _ hy).mono ?_
          rintro e w' ⟨rfl, rfl⟩
          go_wp2
          go_ret
          exact ⟨rfl, rfl⟩
      · rw [below_ne nx ny e]
        have he : (FloatKind.f64.format.order x y == some .eq) = false := by rw [eqB, nx, ny]; simp [e]
        have hl : decide (sk x < sk y) = (FloatKind.f64.format.order x y == some .lt) := by rw [ltB, nx, ny]; simp
        rw [hl]
        clear e hl
        go_enter Try.func14, Try.ntmps14
        go_wp2_with fail
        refine (num_any x _).mono ?_
        rintro e w' ⟨rfl, rfl⟩
        go_wp2_with fail
        refine (num_any y _).mono ?_
        rintro e w' ⟨rfl, rfl⟩
        go_wp2
        go_ret
        exact ⟨rfl, rfl⟩
    · rw [below_nan2 nx ny]
      go_enter Try.func14, Try.ntmps14
      go_wp2_with fail
      refine (num_any x _).mono ?_
      rintro e w' ⟨rfl, rfl⟩
      go_wp2_with fail
      refine (num_any y _).mono ?_
      rintro e w' ⟨rfl, rfl⟩
      go_wp2
      go_ret
      exact ⟨rfl, rfl⟩
  · rw [below_nan1 nx]
    go_enter Try.func14, Try.ntmps14
    go_wp2_with fail
    refine (num_any x _).mono ?_
    rintro e w' ⟨rfl, rfl⟩
    go_wp2
    go_ret
    exact ⟨rfl, rfl⟩
end Go.Proofs.Ytohdhndjbpfliaa
