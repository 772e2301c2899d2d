/-
  All pages taken, given back from one on, and taken the other way: as plain lists. No statement about a Go function.
-/
import Derived.Test.YtmcdobkoedccgaaPoolNew
namespace Go.Proofs.Ytmcdobkoedccgaa
open Go.ChangeShapes Go.WideShapes Go.ChangeAt Go.RowKit

theorem wf_u8 {x : Int} (h : (Lit.int .u8 x).wf = true) : 0 ≤ x ∧ x ≤ 255 := by simpa [Lit.wf, IntKind.min, IntKind.max, IntKind.signed, IntKind.bits] using h
theorem wf_u16 {x : Int} (h : (Lit.int .u16 x).wf = true) : 0 ≤ x ∧ x ≤ 65535 := by simpa [Lit.wf, IntKind.min, IntKind.max, IntKind.signed, IntKind.bits] using h
/-- What has no owner is free. -/
def Tot (O fl : List Int) : Prop := ∀ j : Nat, O[j]? = some (-1) → (j : Int) ∈ fl
section
variable {O fl r : List Int} {k K : Nat} {o : Int}
theorem Tot.take (h : Tot O ((k : Int) :: r)) (hk : k < O.length) (h0 : 0 ≤ o) : Tot (O.set k o) r := fun j hj => by
  by_cases z : k = j
  · subst z
    rw [List.getElem?_set_self hk] at hj
    have := Option.some.inj hj
    omega
  · rw [List.getElem?_set_ne z] at hj
    rcases List.mem_cons.1 (h j hj) with q | q
    · omega
    · exact q
theorem Tot.give (h : Tot O fl) : Tot (O.set k (-1)) ((k : Int) :: fl) := fun j hj => by
  by_cases z : k = j
  · subst z
    simp
  · rw [List.getElem?_set_ne z] at hj
    exact List.mem_cons_of_mem _ (h j hj)
theorem Tot.new (K : Nat) : Tot (freed K) (turns K) := fun j hj => by
  have hl : j < K := by
    have := (List.getElem?_eq_some_iff.1 hj).1
    simpa [freed] using this
  exact List.mem_of_getElem? (turns_at hl)
end
/-- The i-th page that is given back. -/
def pg (K at_ i : Nat) : Nat := (at_ + i) % K
/-- The free ones, after i were given back. -/
def gv (K at_ : Nat) : Nat → List Int
  | 0 => []
  | i + 1 => (pg K at_ i : Int) :: gv K at_ i
section
variable {K at_ i j : Nat}
theorem pg_eq (ha : at_ < K) (hi : i < K) : pg K at_ i = if at_ + i < K then at_ + i else at_ + i - K := by
  unfold pg
  split
  · rename_i h
    exact Nat.mod_eq_of_lt h
  · rename_i h
    rw [Nat.mod_eq_sub_mod (by omega), Nat.mod_eq_of_lt (by omega)]
theorem pg_lt (ha : at_ < K) : pg K at_ i < K := Nat.mod_lt _ (by omega)
theorem pg_ne (ha : at_ < K) (hi : i < K) (hj : j < i) : pg K at_ i ≠ pg K at_ j := by
  rw [pg_eq ha hi, pg_eq ha (by omega)]
  split <;> split <;> omega
theorem gv_no (ha : at_ < K) (hi : i < K) : ∀ n, n ≤ i → (pg K at_ i : Int) ∉ gv K at_ n := by
  intro n
  induction n with
  | zero => intro _ h; cases h
  | succ n ih =>
    intro hn h
    rcases List.mem_cons.1 h with q | q
    · exact pg_ne ha hi (j := n) (by omega) (by omega)
    · exact ih (by omega) q
end
/-- How far the pages are taken; given back; taken again. -/
structure A1 (w : World) (p a K : Nat) (fl : List Int) : Prop where
  some_ : ∃ O, Pm w p a K O fl ∧ Tot O fl
theorem A1.of {w : World} {p a K : Nat} {O fl : List Int} (h : Pm w p a K O fl) (t : Tot O fl) : A1 w p a K fl := ⟨O, h, t⟩
section
variable {w : World} {p a K : Nat} {fl r : List Int}
theorem a1_take {k : Nat} (h : A1 w p a K ((k : Int) :: r)) (o : Int) (h0 : 0 ≤ o) (ho : Fit o) :
    Calls Try.prog 16 #[.pointer (some ⟨p, 0, none⟩), .int .i64 o] w fun e w' => e = .returned (.tuple #[.int .i64 (k : Int), .int .i64 0]) ∧ A1 w' p a K r ∧ But (Own p a) w w' := by
  obtain ⟨O, h1, h2⟩ := h
  refine (take_ok h1 o h0 ho).mono ?_
  rintro e w' ⟨he, h3, h4⟩
  obtain ⟨k', e', hk⟩ := h1.wf.lt (x := (k : Int)) (by simp)
  exact ⟨he, A1.of h3 (h2.take (by rw [h1.wf.len]; omega) h0), h4⟩
theorem a1_none (h : A1 w p a K []) (o : Int) (h0 : 0 ≤ o) :
    Calls Try.prog 16 #[.pointer (some ⟨p, 0, none⟩), .int .i64 o] w fun e w' => e = .returned (.tuple #[.int .i64 0, .int .i64 5]) ∧ A1 w' p a K [] ∧ But (Own p a) w w' := by
  obtain ⟨O, h1, h2⟩ := h
  refine (take_none h1 o h0).mono ?_
  rintro e w' ⟨he, h3, h4⟩
  exact ⟨he, A1.of h3 h2, h4⟩
theorem a1_give {k : Nat} (h : A1 w p a K fl) (hk : k < K) (hn : (k : Int) ∉ fl) :
    Calls Try.prog 17 #[.pointer (some ⟨p, 0, none⟩), .int .i64 (k : Int)] w fun e w' => e = .returned (.int .i64 0) ∧ A1 w' p a K ((k : Int) :: fl) ∧ But (Own p a) w w' := by
  obtain ⟨O, h1, h2⟩ := h
  obtain ⟨x, hx, _⟩ := h1.wf.ofK hk
  refine (give_ok h1 k hk hx (fun q => hn (h2 k (by rw [hx, q])))).mono ?_
  rintro e w' ⟨he, h3, h4⟩
  exact ⟨he, A1.of h3 h2.give, h4⟩
theorem a1_held (h : A1 w p a K []) : Calls Try.prog 13 #[.pointer (some ⟨p, 0, none⟩)] w (RQ (K : Int) w) := by
  obtain ⟨O, h1, h2⟩ := h
  have := held_any h1
  simpa using this
end
end Go.Proofs.Ytmcdobkoedccgaa
