/-
  Least of package ratio, what it calls, and the document's own answer for it, each met by a contract: whatever slice of floats comes in, they return the bits 'leastL', and change no memory.
-/
import Derived.Test.YtohdhndjbpfliaaRatioBelow
import Derived.Test.YtohdhndjbpfliaaFloats
import Derived.Deep.QuietTactic
import Derived.BigQuiet
namespace Go.Proofs.Ytohdhndjbpfliaa
open Go.ChangeShapes Go.WideShapes Go.ChangeAt Go.RowKit

/-! ### The least one, as a plain number -/
def lesser (m y : Nat) : Nat := if below y m then y else m
def leastFrom (m : Nat) (l : List Nat) : Nat := l.foldl lesser m
def leastL : List Nat → Nat
  | [] => 9221120237041090561
  | x :: l => leastFrom x l
/-- None of the first k is below m. -/
def NoneOf (xs : List Nat) (m k : Nat) : Prop := ∀ (j y : Nat), j < k → xs[j]? = some y → below y m = false
theorem NoneOf.zero (xs : List Nat) (m : Nat) : NoneOf xs m 0 := fun j _ h => absurd h (by omega)
theorem NoneOf.next {xs : List Nat} {m k x : Nat} (h : NoneOf xs m k) (hx : xs[k]? = some x) (hb : below x m = false) : NoneOf xs m (k + 1) := by
  intro j y hj hy
  rcases Nat.lt_or_eq_of_le (Nat.le_of_lt_succ hj) with g | g
  · exact h j y g hy
  · subst g; rw [hx] at hy; injection hy with hy; rw [← hy]; exact hb
theorem leastFrom_none {xs : List Nat} {m : Nat} (h : NoneOf xs m xs.length) : leastFrom m xs = m := by
  induction xs with
  | nil => rfl
  | cons x l ih =>
    have h0 : below x m = false := h 0 x (by simp) rfl
    show leastFrom (lesser m x) l = m
    rw [show lesser m x = m by simp [lesser, h0]]
    exact ih fun j y hj hy => h (j + 1) y (by simp; omega) hy
theorem leastFrom_hit {xs : List Nat} {m k x : Nat} (h : NoneOf xs m k) (hx : xs[k]? = some x) (hb : below x m = true) : leastFrom m xs = leastFrom x (xs.drop (k + 1)) := by
  induction xs generalizing k with
  | nil => simp at hx
  | cons z l ih =>
    cases k with
    | zero =>
      simp at hx
      subst hx
      show leastFrom (lesser m z) l = _
      rw [show lesser m z = z by simp [lesser, hb]]
      rfl
    | succ k =>
      have h0 : below z m = false := h 0 z (by simp) rfl
      show leastFrom (lesser m z) l = _
      rw [show lesser m z = m by simp [lesser, h0]]
      exact ih (k := k) (fun j y hj hy => h (j + 1) y (by omega) hy) hx
theorem leastFrom_step {xs : List Nat} {m k x : Nat} (hx : xs[k]? = some x) : leastFrom m (xs.drop k) = leastFrom (lesser m x) (xs.drop (k + 1)) := by
  obtain ⟨hk, e⟩ := List.getElem?_eq_some_iff.1 hx
  rw [List.drop_eq_getElem_cons hk, e]
  rfl
theorem leastL_cons {xs : List Nat} {x : Nat} (h : xs[0]? = some x) : leastL xs = leastFrom x (xs.drop 1) := by
  cases xs with
  | nil => simp at h
  | cons z l => simp at h; subst h; rfl

/-- Where the first one is that is below m, -1 for none. -/
def Idx (xs : List Nat) (m : Nat) (r : Int) : Prop := (∃ k x : Nat, r = (k : Int) ∧ k < xs.length ∧ xs[k]? = some x ∧ below x m = true ∧ NoneOf xs m k) ∨ (r = -1 ∧ NoneOf xs m xs.length)
def sliceLen : Value → Nat
  | .slice _ n _ => n
  | _ => 0

/-! ### slices.IndexFunc, asked for what is below a float -/
theorem index_any (a : Option Addr) (n c : Nat) (xs : List Nat) (m : Nat) (B : Nat) (w : World) (h : Floats w B a n xs) :
    Calls Try.prog 25 #[.slice a n c, .func (.func 22) #[.float .f64 m] #[]] w fun e w' => ∃ r, e = .returned (.int .i64 r) ∧ Idx xs m r ∧ w = w' := by
  have hmax := h.max
  go_enter Try.func25, Try.ntmps25
  go_wp2
  go_loop [8] (fun i => ∃ k : Nat, k ≤ n ∧ i = .int .i64 k ∧ NoneOf xs m k) (fun i => n - (intOf i).toNat)
  case atStart => exact ⟨0, Nat.zero_le _, rfl, NoneOf.zero _ _⟩
  case round =>
    obtain ⟨k, hk, rfl, hl⟩ := hrel
    by_cases hlt : k < n
    · obtain ⟨s, hs, s1⟩ := h.at_ hlt
      obtain ⟨b, o, rfl, hb, hc⟩ := h.head (by omega)
      have hcell := hc k s hs
      have HS := Lib.hid hs
      have HL := Lib.hid h.len
      clear hc hs
      cases hq : below s m
      · have HN := hl.next HS.out hq
        go_wp2_with fail
        refine (above_any s m _).mono ?_
        rintro e w' ⟨rfl, rfl⟩
        go_wp2
        go_round
        case rel => exact ⟨k + 1, by omega, by go_num, HN⟩
        case measure => simp [intOf]; omega
      · have HQ := Lib.hid hq
        go_wp2_with fail
        refine (above_any s m _).mono ?_
        rintro e w' ⟨rfl, rfl⟩
        go_wp2
        go_ret
        exact ⟨k, rfl, .inl ⟨k, s, rfl, by rw [HL.out]; exact hlt, HS.out, HQ.out, hl⟩, rfl⟩
    · have e : n = k := by omega
      have HF := Lib.hid (show NoneOf xs m xs.length by rw [h.len, e]; exact hl)
      clear e
      go_wp2
      go_ret
      exact ⟨-1, rfl, .inr ⟨rfl, HF.out⟩, rfl⟩

theorem naN_any (w : World) : Calls Try.prog 24 #[] w fun e w' => e = .returned (.float .f64 9221120237041090561) ∧ w = w' := by
  have hb : ∀ w, (callFunc 30 #[.int .u64 9221120237041090561]).run Try.prog w = .ok (.value (.float .f64 9221120237041090561)) w := fun w => from_run 9221120237041090561 w
  go_enter Try.func24, Try.ntmps24
  go_wp2
  go_ret
  exact ⟨rfl, rfl⟩
end Go.Proofs.Ytohdhndjbpfliaa
