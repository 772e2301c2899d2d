/-
  Package arena: Len, part, word, at an arena and at nil.
-/
import Derived.Test.YtnopeifgcpibaaaArena
namespace Go.Proofs.Ytnopeifgcpibaaa
open Go.ChangeShapes Go.WideShapes Go.ChangeAt Go.RowKit

theorem len_any {w : World} {p b : Nat} {m : Option Nat} {xs : List Int} {t l : Int} (h : Ar w p b m xs t l) :
    Calls Try.prog 17 #[.pointer (some ⟨p, 0, none⟩)] w (R1 (xs.length : Int) w) := by
  have h0 := h.bytes
  have h1 := h.max
  generalize xs.length = n at h0 h1 ⊢
  clear h
  go_enter Try.func17, Try.ntmps17
  go_wp2
  go_ret
  exact ⟨rfl, rfl⟩
theorem len_nil (w : World) : Calls Try.prog 17 #[.pointer none] w (R1 0 w) := by
  go_enter Try.func17, Try.ntmps17
  go_wp2
  go_ret
  exact ⟨rfl, rfl⟩

/-- They are there: n of them from at on. -/
def thereB (len : Nat) (at_ n : Int) : Prop := 0 ≤ at_ ∧ 0 ≤ n ∧ at_ + n ≤ (len : Int)
instance (len : Nat) (a b : Int) : Decidable (thereB len a b) := inferInstanceAs (Decidable (_ ∧ _ ∧ _))

/-- A function that stands is not nil. -/
theorem func_nil (q : Option Addr) (v : World) : (binOp .eql 61 (.func (.func 25) #[.pointer q] #[]) .nilFunc).run Try.prog v = .ok (.bool false) v := by kernel_rfl
theorem part_nil (at_ n : Int) (w : World) :
    Calls Try.prog 32 #[.pointer none, .int .i64 at_, .int .i64 n] w fun e w' => e = .returned (.tuple #[.slice none 0 0, .int .i64 1]) ∧ w = w' := by
  go_enter Try.func32, Try.ntmps32
  go_wp2
  go_ret2
  exact ⟨rfl, rfl⟩
theorem part_bad {w : World} {p b : Nat} {m : Option Nat} {xs : List Int} {t l : Int} (h : Ar w p b m xs t l) (at_ n : Int) (ha : -9223372036854775808 ≤ at_ ∧ at_ ≤ 9223372036854775807) (hn : ¬ thereB xs.length at_ n) :
    Calls Try.prog 32 #[.pointer (some ⟨p, 0, none⟩), .int .i64 at_, .int .i64 n] w fun e w' => e = .returned (.tuple #[.slice none 0 0, .int .i64 8]) ∧ w = w' := by
  have h0 := h.bytes
  have h1 := h.charge
  have hnil := func_nil (ad m)
  have h2 := h.max
  unfold thereB at hn
  generalize xs.length = len at h0 h2 hn
  clear h
  by_cases c1 : at_ < 0
  · have d1 : decide (at_ < 0) = true := by simp [c1]
    clear hn
    go_enter Try.func32, Try.ntmps32
    go_wp2
    go_ret2
    exact ⟨rfl, rfl⟩
  · have d1 : decide (at_ < 0) = false := by simp; omega
    have hw : IntKind.i64.wrap ((len : Int) - at_) = (len : Int) - at_ := IntWalk.i64_in _ (by omega)
    have d2 : (decide ((0 : Int) ≤ n) && decide (n ≤ (len : Int) - at_)) = false := by
      cases q : (decide ((0 : Int) ≤ n) && decide (n ≤ (len : Int) - at_)) with
      | false => rfl
      | true => simp at q; exact absurd ⟨by omega, q.1, by omega⟩ hn
    clear hn
    go_enter Try.func32, Try.ntmps32
    go_wp2_with fail
    refine (within_any n 0 ((len : Int) - at_) w).mono ?_
    rw [d2]
    rintro e w' ⟨rfl, rfl⟩
    go_wp2
    go_ret2
    exact ⟨rfl, rfl⟩
theorem part_ok {w : World} {p b : Nat} {m : Option Nat} {xs : List Int} {t l : Int} (h : Ar w p b m xs t l) (at_ n : Nat) (hn : at_ + n ≤ xs.length) :
    Calls Try.prog 32 #[.pointer (some ⟨p, 0, none⟩), .int .i64 (at_ : Int), .int .i64 (n : Int)] w fun e w' => ∃ o c, e = .returned (.tuple #[.slice (some ⟨b, o, none⟩) n c, .int .i64 0]) ∧ w = w' ∧ (0 < n → o = at_) ∧ n ≤ c := by
  have h0 := h.bytes
  have h1 := h.charge
  have hnil := func_nil (ad m)
  have h2 := h.max
  generalize xs.length = len at h0 h2 hn
  clear h
  have d1 : decide ((at_ : Int) < 0) = false := by simp
  have hw : IntKind.i64.wrap ((len : Int) - (at_ : Int)) = (len : Int) - (at_ : Int) := IntWalk.i64_in _ (by omega)
  have hw2 : IntKind.i64.wrap ((at_ : Int) + (n : Int)) = (at_ : Int) + (n : Int) := IntWalk.i64_in _ (by omega)
  have d2 : (decide ((0 : Int) ≤ (n : Int)) && decide ((n : Int) ≤ (len : Int) - (at_ : Int))) = true := by simp; omega
  obtain ⟨o, c, ho, hc, hcut⟩ := cut_lh (b := b) (o := 0) (n := len) (c := len) (i := at_) (k := n) hn
  have HO := Lib.hid ho
  have HC := Lib.hid hc
  clear hn ho hc
  go_enter Try.func32, Try.ntmps32
  go_wp2_with fail
  refine (within_any n 0 ((len : Int) - at_) w).mono ?_
  rw [d2]
  rintro e w' ⟨rfl, rfl⟩
  go_wp2
  go_ret2
  exact ⟨o, c, rfl, rfl, fun h => by simpa using HO.out h, HC.out⟩

theorem word_nil (at_ : Int) (w : World) :
    Calls Try.prog 34 #[.pointer none, .int .i64 at_] w fun e w' => e = .returned (.tuple #[.slice none 0 0, .int .i64 1]) ∧ w = w' := by
  go_enter Try.func34, Try.ntmps34
  go_wp2_with fail
  refine (part_nil _ _ w).mono ?_
  rintro e w' ⟨rfl, rfl⟩
  go_wp2
  go_ret2
  exact ⟨rfl, rfl⟩
/-- What forbids a word. -/
def wordErr (len : Nat) (at_ : Int) : Int := if thereB len at_ 8 then (if at_ % 8 = 0 then 0 else 1) else 8
theorem word_bad {w : World} {p b : Nat} {m : Option Nat} {xs : List Int} {t l : Int} (h : Ar w p b m xs t l) (at_ : Int) (ha : -9223372036854775808 ≤ at_ ∧ at_ ≤ 9223372036854775807) (hn : wordErr xs.length at_ ≠ 0) :
    Calls Try.prog 34 #[.pointer (some ⟨p, 0, none⟩), .int .i64 at_] w fun e w' => e = .returned (.tuple #[.slice none 0 0, .int .i64 (wordErr xs.length at_)]) ∧ w = w' := by
  by_cases ht : thereB xs.length at_ 8
  · have hm : ¬ at_ % 8 = 0 := by intro q; simp [wordErr, ht, q] at hn
    have he : wordErr xs.length at_ = 1 := by simp [wordErr, ht, hm]
    obtain ⟨a, rfl⟩ : ∃ a : Nat, at_ = (a : Int) := ⟨at_.toNat, by have := ht.1; omega⟩
    have e3 : ((a : Int) % 8 != 0) = true := by simpa using hm
    rw [he]
    have HP := Lib.hid (part_ok h a 8 (by have := ht.2.2; omega))
    clear hn hm he ht
    go_enter Try.func34, Try.ntmps34
    go_wp2_with fail
    refine HP.out.mono ?_
    rintro e w' ⟨o, c, rfl, rfl, ho, hc⟩
    have HO := Lib.hid ho
    clear ho hc HP
    go_wp2
    go_ret2
    exact ⟨rfl, rfl⟩
  · have he : wordErr xs.length at_ = 8 := by simp [wordErr, ht]
    rw [he]
    have HP := Lib.hid (part_bad h at_ 8 ha ht)
    clear hn he ht
    go_enter Try.func34, Try.ntmps34
    go_wp2_with fail
    refine HP.out.mono ?_
    rintro e w' ⟨rfl, rfl⟩
    clear HP
    go_wp2
    go_ret2
    exact ⟨rfl, rfl⟩
theorem word_ok {w : World} {p b : Nat} {m : Option Nat} {xs : List Int} {t l : Int} (h : Ar w p b m xs t l) (at_ : Nat) (hn : at_ + 8 ≤ xs.length) (hm : at_ % 8 = 0) :
    Calls Try.prog 34 #[.pointer (some ⟨p, 0, none⟩), .int .i64 (at_ : Int)] w fun e w' => ∃ c, e = .returned (.tuple #[.slice (some ⟨b, at_, none⟩) 8 c, .int .i64 0]) ∧ w = w' ∧ 8 ≤ c := by
  have e3 : ((at_ : Int) % 8 != 0) = false := by simp; omega
  have HP := Lib.hid (part_ok h at_ 8 hn)
  clear hn hm
  go_enter Try.func34, Try.ntmps34
  go_wp2_with fail
  refine HP.out.mono ?_
  rintro e w' ⟨o, c, rfl, rfl, ho, hc⟩
  obtain rfl := ho (by omega)
  have HC := Lib.hid hc
  clear hc HP ho
  go_wp2
  go_ret2
  exact ⟨c, rfl, rfl, HC.out⟩
end Go.Proofs.Ytnopeifgcpibaaa
