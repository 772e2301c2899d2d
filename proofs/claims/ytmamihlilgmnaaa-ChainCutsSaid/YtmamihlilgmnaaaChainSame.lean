/-
  The laws' own 'same' (almerylaw16), of slices that read as the same spans: it returns true, and draws alone.
-/
import Derived.Test.YtmamihlilgmnaaaChainRow
import Derived.Test.YtmamihlilgmnaaaQuietImp
import Derived.Laws.StructEq
namespace Go.Proofs.Ytmamihlilgmnaaa
open Go.ChangeShapes Go.WideShapes Go.ChangeAt Go.RowKit Go.Deep

set_option maxRecDepth 20000 in
theorem same16_any (a1 a2 : Option Addr) (n c1 c2 : Nat) (us : List Sp) (w : World) (h1 : Spans w w.heap.size a1 n us) (h2 : Spans w w.heap.size a2 n us) :
    Calls Try.prog 8 #[.slice a1 n c1, .slice a2 n c2] w (BB true w) := by
  have hmax := h1.max
  have H1 := Lib.hid h1
  have H2 := Lib.hid h2
  clear h1 h2
  have hne : ((n : Int) != (n : Int)) = false := by simp
  go_enter Try.func8, Try.ntmps8
  go_wp2
  go_loopw [5] (fun i wr => ∃ k : Nat, k ≤ n ∧ i = .int .i64 k ∧ Below w.heap.size w wr) (fun i _ => n - (intOf i).toNat)
  case atStart => exact ⟨0, by omega, rfl, Below.refl _ _⟩
  case round =>
    obtain ⟨k, hk, rfl, hb⟩ := hrel
    have HB := Lib.hid hb
    by_cases hlt : k < n
    · have dk : decide ((k : Int) < (n : Int)) = true := by simp; omega
      obtain ⟨u, hu, _⟩ := H1.out.at_ hlt
      obtain ⟨b1, o1, rfl, _, x0, x1, x2⟩ := (H1.out.on hb).at3 hu
      obtain ⟨b2, o2, rfl, _, y0, y1, y2⟩ := (H2.out.on hb).at3 hu
      have hk0 : (0 : Int) ≤ (k : Int) := by omega
      have hkn : (k : Int) < (n : Int) := by omega
      obtain ⟨A, hA⟩ : ∃ A : Int, (u.n : Int) = A := ⟨_, rfl⟩
      obtain ⟨B, hB⟩ : ∃ A : Int, (u.a : Int) = A := ⟨_, rfl⟩
      obtain ⟨C, hC⟩ : ∃ A : Int, (u.l : Int) = A := ⟨_, rfl⟩
      rw [hA] at x0 y0
      rw [hB] at x1 y1
      rw [hC] at x2 y2
      have hq : ∀ v, (binOp .neq 29 (.agg #[.int .i64 A, .int .i64 B, .int .i64 C]) (.agg #[.int .i64 A, .int .i64 B, .int .i64 C])).run Try.prog v = .ok (.bool false) v := fun v => by
        have hf : Try.prog.underlying 29 = some (.struct (Try.prog.fieldsOf 29)) := by kernel_rfl
        simp [go_sem, run_neq_struct, run_equalIn_struct _ _ _ _ _ hf (by kernel_rfl)]
      clear hA hB hC hu hb
      go_wp2
      go_quiet (fail)
      go_wp2
      go_roundw
      case rel => exact ⟨k + 1, by omega, by go_num, belowN HB.out _⟩
      case measure => simp [intOf]; omega
    · have dk : decide ((k : Int) < (n : Int)) = false := by simp; omega
      go_wp2
      go_ret
      exact ⟨rfl, HB.out⟩
end Go.Proofs.Ytmamihlilgmnaaa
