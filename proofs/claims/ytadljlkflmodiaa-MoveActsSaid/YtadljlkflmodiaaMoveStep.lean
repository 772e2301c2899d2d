/-
  Package move: Step, and Wrote, of a move: what each tells, lays and charges; or what is wrong, and then nothing turns.
-/
import Derived.Test.YtadljlkflmodiaaMoveDo
namespace Go.Proofs.Ytadljlkflmodiaa
open Go.ChangeShapes Go.WideShapes Go.ChangeAt Go.RowKit

section
variable {w : World} {q p b : Nat} {m : Option Nat} {xs : List Int} {tt l : Int} {f t s g : Nat}
theorem step_any (h : Mw w q p b m xs tt l f t s g) (n : Int) :
    Calls Try.prog 22 #[.pointer (some ⟨q, 0, none⟩), .int .i64 n] w fun e w' => e = .returned (.int .i64 (goes s g n : Int)) ∧ Mw w' q p b m (laid xs f t g (goes s g n)) (more tt (goes s g n)) l f t s (g + goes s g n) ∧ But (Ours q b m) w w' := by
  have hmax := h.ar.max
  have hfs := h.fs
  have hgs := h.mv.gs
  have HQ := Lib.hid h.mv.size
  obtain ⟨_, _, c2, c3, _, _, _⟩ := h.mv
  have HCL : Hid (∀ (v : World) (c : Nat), v.cell? ⟨c, 0, none⟩ = some (.int .i64 (s : Int)) → Calls Try.prog 43 #[.int .i64 (g : Int), .int .i64 n, .pointer (some ⟨c, 0, none⟩)] v (R1 (goes s g n : Int) v)) := Lib.hid fun v c hc => by
    have := closure_any (s : Int) (g : Int) n c v hc (by omega)
    rwa [goes_int] at this
  have HK := Lib.hid (goes_le hgs n)
  generalize goes s g n = k at HCL HK ⊢
  have H := Lib.hid h
  have hw : IntKind.i64.wrap ((g : Int) + (k : Int)) = ((g + k : Nat) : Int) := by rw [IntWalk.i64_in _ (by have := HK.out; omega)]; simp
  have HC := Lib.hid (fun (v : World) (hv : Below w.heap.size w v) => carry_any (h.below hv) g k HK.out)
  clear h hmax hfs hgs
  go_enter Try.func22, Try.ntmps22
  go_wp2
  go_region_held3 (fun w' => w'.cell? ⟨q, 2, none⟩ = some (.int .i64 (s : Int)) ∧ w'.cell? ⟨q, 3, none⟩ = some (.int .i64 (g : Int)))
    (first | exact ⟨c2, c3⟩ | go_keep)
    (first
      | (go_at_call 36; refine (ahead_any _ _).mono ?_; rintro e w3 ⟨rfl, rfl⟩)
      | (go_at_call 43; refine (HCL.out _ _ (by go_simp)).mono ?_; rintro e w4 ⟨rfl, rfl⟩))
  go_wp2_with fail
  refine (HC.out _ (by first | exact belowD (below1 _ _) | exact (belowD (Below.refl _ _)).alloc (Nat.le_refl _) _)).mono ?_
  rintro e w5 ⟨rfl, m5, b5⟩
  have b0 : But (Ours q b m) w w5 := (((But.refl (Ours q b m) w).drew).alloc _).trans (b5.ours q)
  have B0 := Lib.hid b0
  have M5 := Lib.hid m5
  obtain ⟨_, _, _, c3, _, c6, _⟩ := m5.mv
  clear b0 b5 m5 c2
  go_wp2
  go_ret
  exact ⟨rfl, M5.out.set HK.out, B0.out.setCell (p := ⟨q, 3, none⟩) (fun _ => Or.inl rfl) _⟩

theorem wrote_bad (h : Mw w q p b m xs tt l f t s g) (at_ n : Int) (ha : -9223372036854775808 ≤ at_ ∧ at_ ≤ 9223372036854775807) (hn : ¬ (0 ≤ at_ ∧ 0 ≤ n ∧ at_ + n ≤ (s : Int))) :
    Calls Try.prog 24 #[.pointer (some ⟨q, 0, none⟩), .int .i64 at_, .int .i64 n] w fun e w' => e = .returned (.int .i64 8) ∧ w = w' := by
  have hmax := h.ar.max
  have hfs := h.fs
  have c2 := h.mv.c2
  clear h
  by_cases h1 : at_ < 0
  · have d1 : decide (at_ < 0) = true := by simpa using h1
    clear hn
    go_enter Try.func24, Try.ntmps24
    go_wp2
    go_ret
    exact ⟨rfl, rfl⟩
  · have d1 : decide (at_ < 0) = false := by simpa using h1
    by_cases h2 : n < 0
    · have d2 : decide (n < 0) = true := by simpa using h2
      clear hn
      go_enter Try.func24, Try.ntmps24
      go_wp2
      go_ret
      exact ⟨rfl, rfl⟩
    · have d2 : decide (n < 0) = false := by simpa using h2
      have hw : IntKind.i64.wrap ((s : Int) - at_) = (s : Int) - at_ := IntWalk.i64_in _ (by omega)
      have d3 : decide ((s : Int) - at_ < n) = true := by rw [decide_eq_true_iff]; omega
      clear hn
      go_enter Try.func24, Try.ntmps24
      go_wp2
      go_ret
      exact ⟨rfl, rfl⟩
theorem wrote_ok (h : Mw w q p b m xs tt l f t s g) (at_ n : Nat) (hn : at_ + n ≤ s) :
    Calls Try.prog 24 #[.pointer (some ⟨q, 0, none⟩), .int .i64 (at_ : Int), .int .i64 (n : Int)] w fun e w' => e = .returned (.int .i64 0) ∧ Mw w' q p b m (laid xs f t at_ (again g at_ n)) (more tt (again g at_ n)) l f t s g ∧ But (Mine b m) w w' := by
  have hmax := h.ar.max
  have hfs := h.fs
  have hgs := h.mv.gs
  have d1 : decide ((at_ : Int) < 0) = false := by simp
  have d2 : decide ((n : Int) < 0) = false := by simp
  have hw : IntKind.i64.wrap ((s : Int) - (at_ : Int)) = (s : Int) - (at_ : Int) := IntWalk.i64_in _ (by omega)
  have d3 : decide ((s : Int) - (at_ : Int) < (n : Int)) = false := by rw [decide_eq_false_iff_not]; omega
  obtain ⟨_, _, c2, c3, _, _, _⟩ := h.mv
  have HCL : Hid (∀ (v : World) (c : Nat), v.cell? ⟨c, 0, none⟩ = some (.int .i64 (g : Int)) → Calls Try.prog 43 #[.int .i64 (at_ : Int), .int .i64 (n : Int), .pointer (some ⟨c, 0, none⟩)] v (R1 (again g at_ n : Int) v)) := Lib.hid fun v c hc => by
    have := closure_any (g : Int) (at_ : Int) n c v hc (by omega)
    rwa [again_int] at this
  have HK := Lib.hid (again_le (g := g) hn)
  generalize again g at_ n = k at HCL HK ⊢
  have HC := Lib.hid (fun (v : World) (hv : Below w.heap.size w v) => carry_any (h.below hv) at_ k HK.out)
  clear h hmax hfs hgs hn
  go_enter Try.func24, Try.ntmps24
  go_wp2_with fail
  refine (ahead_any _ _).mono ?_
  rintro e w3 ⟨rfl, rfl⟩
  go_wp2_with fail
  refine (HCL.out _ _ (by go_simp)).mono ?_
  rintro e w4 ⟨rfl, rfl⟩
  go_wp2_with fail
  refine (HC.out _ (below1 _ _)).mono ?_
  rintro e w5 ⟨rfl, m5, b5⟩
  have B0 := Lib.hid (((But.refl (Mine b m) w).alloc _).trans b5)
  have M5 := Lib.hid m5
  clear b5 m5 c2 c3
  go_wp2
  go_ret
  exact ⟨rfl, M5.out, B0.out⟩
end
end Go.Proofs.Ytadljlkflmodiaa
