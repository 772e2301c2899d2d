/-
  Package arena: Len, part, at an arena and at nil.
-/
import Derived.Test.YtadljlkflmodiaaArena
namespace Go.Proofs.Ytadljlkflmodiaa
open Go.ChangeShapes Go.WideShapes Go.ChangeAt Go.RowKit

theorem len_any {w : World} {p b : Nat} {m : Option Nat} {xs : List Int} {t l : Int} (h : Ar w p b m xs t l) :
    Calls Try.prog 41 #[.pointer (some ⟨p, 0, none⟩)] w (R1 (xs.length : Int) w) := by
  have h0 := h.bytes
  have h1 := h.max
  generalize xs.length = n at h0 h1 ⊢
  clear h
  go_enter Try.func41, Try.ntmps41
  go_wp2
  go_ret
  exact ⟨rfl, rfl⟩
theorem len_nil (w : World) : Calls Try.prog 41 #[.pointer none] w (R1 0 w) := by
  go_enter Try.func41, Try.ntmps41
  go_wp2
  go_ret
  exact ⟨rfl, rfl⟩

/-- They are there: n of them from at on. -/
def thereB (len : Nat) (at_ n : Int) : Prop := 0 ≤ at_ ∧ 0 ≤ n ∧ at_ + n ≤ (len : Int)
instance (len : Nat) (a b : Int) : Decidable (thereB len a b) := inferInstanceAs (Decidable (_ ∧ _ ∧ _))

/-- A function that stands is not nil. -/
theorem func_nil (q : Option Addr) (v : World) : (binOp .eql 65 (.func (.func 26) #[.pointer q] #[]) .nilFunc).run Try.prog v = .ok (.bool false) v := by kernel_rfl
theorem part_nil (at_ n : Int) (w : World) :
    Calls Try.prog 27 #[.pointer none, .int .i64 at_, .int .i64 n] w fun e w' => e = .returned (.tuple #[.slice none 0 0, .int .i64 1]) ∧ w = w' := by
  go_enter Try.func27, Try.ntmps27
  go_wp2
  go_ret2
  exact ⟨rfl, rfl⟩
theorem part_bad {w : World} {p b : Nat} {m : Option Nat} {xs : List Int} {t l : Int} (h : Ar w p b m xs t l) (at_ n : Int) (ha : -9223372036854775808 ≤ at_ ∧ at_ ≤ 9223372036854775807) (hn : ¬ thereB xs.length at_ n) :
    Calls Try.prog 27 #[.pointer (some ⟨p, 0, none⟩), .int .i64 at_, .int .i64 n] w fun e w' => e = .returned (.tuple #[.slice none 0 0, .int .i64 8]) ∧ w = w' := by
  have h0 := h.bytes
  have h1 := h.charge
  have hnil := func_nil (ad m)
  have h2 := h.max
  unfold thereB at hn
  generalize xs.length = len at h0 h2 hn
  clear h
  by_cases c1 : at_ < 0
  · have d1 : decide (at_ < 0) = true := by simp [c1]
    clear hn
    go_enter Try.func27, Try.ntmps27
    go_wp2
    go_ret2
    exact ⟨rfl, rfl⟩
  · have d1 : decide (at_ < 0) = false := by simp; omega
    have hw : IntKind.i64.wrap ((len : Int) - at_) = (len : Int) - at_ := IntWalk.i64_in _ (by omega)
    have d2 : (decide ((0 : Int) ≤ n) && decide (n ≤ (len : Int) - at_)) = false := by
      cases q : (decide ((0 : Int) ≤ n) && decide (n ≤ (len : Int) - at_)) with
      | false => rfl
      | true => simp at q; exact absurd ⟨by omega, q.1, by omega⟩ hn
    clear hn
    go_enter Try.func27, Try.ntmps27
    go_wp2_with fail
    refine (within_any n 0 ((len : Int) - at_) w).mono ?_
    rw [d2]
    rintro e w' ⟨rfl, rfl⟩
    go_wp2
    go_ret2
    exact ⟨rfl, rfl⟩
theorem part_ok {w : World} {p b : Nat} {m : Option Nat} {xs : List Int} {t l : Int} (h : Ar w p b m xs t l) (at_ n : Nat) (hn : at_ + n ≤ xs.length) :
    Calls Try.prog 27 #[.pointer (some ⟨p, 0, none⟩), .int .i64 (at_ : Int), .int .i64 (n : Int)] w fun e w' => ∃ o c, e = .returned (.tuple #[.slice (some ⟨b, o, none⟩) n c, .int .i64 0]) ∧ w = w' ∧ (0 < n → o = at_) ∧ n ≤ c := by
  have h0 := h.bytes
  have h1 := h.charge
  have hnil := func_nil (ad m)
  have h2 := h.max
  generalize xs.length = len at h0 h2 hn
  clear h
  have d1 : decide ((at_ : Int) < 0) = false := by simp
  have hw : IntKind.i64.wrap ((len : Int) - (at_ : Int)) = (len : Int) - (at_ : Int) := IntWalk.i64_in _ (by omega)
  have hw2 : IntKind.i64.wrap ((at_ : Int) + (n : Int)) = (at_ : Int) + (n : Int) := IntWalk.i64_in _ (by omega)
  have d2 : (decide ((0 : Int) ≤ (n : Int)) && decide ((n : Int) ≤ (len : Int) - (at_ : Int))) = true := by simp; omega
  obtain ⟨o, c, ho, hc, hcut⟩ := cut_lh (b := b) (o := 0) (n := len) (c := len) (i := at_) (k := n) hn
  have HO := Lib.hid ho
  have HC := Lib.hid hc
  clear hn ho hc
  go_enter Try.func27, Try.ntmps27
  go_wp2_with fail
  refine (within_any n 0 ((len : Int) - at_) w).mono ?_
  rw [d2]
  rintro e w' ⟨rfl, rfl⟩
  go_wp2
  go_ret2
  exact ⟨o, c, rfl, rfl, fun h => by simpa using HO.out h, HC.out⟩
end Go.Proofs.Ytadljlkflmodiaa
