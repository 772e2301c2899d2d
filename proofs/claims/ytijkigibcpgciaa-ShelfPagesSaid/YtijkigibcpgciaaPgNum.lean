/-
  The owners of a page's blocks as a plain list of numbers, -1 of a free one: what Take, Give, Own answer, and what is left. No statement about a Go function.
-/
import Derived.Test.YtijkigibcpgciaaPgBitsNum
namespace Go.Proofs.Ytijkigibcpgciaa.Pg

/-- The owner of block k; -1, if it is free, or there is none. -/
def ow (X : List Int) (k : Nat) : Int := X[k]?.getD (-1)
/-- Is there such a block? -/
def inP (X : List Int) (at_ : Int) : Bool := decide (0 ≤ at_) && decide (at_ < (X.length : Int))
def ownerOf (X : List Int) (at_ : Int) : Int := if inP X at_ = true then ow X at_.toNat else -1
/-- Which blocks aren't free. -/
def usedL (X : List Int) : List Bool := X.map fun x => x != -1
def holeOf (X : List Int) : Int := lowOf (usedL X)
def topOf (X : List Int) : Int := highOf (usedL X)
def usedN (X : List Int) : Nat := (usedL X).count true
/-- Take: the owners behind it, the block, what is wrong. -/
def takeX (X : List Int) (o : Int) : List Int := if o < 0 then X else if holeOf X = -1 then X else X.set (holeOf X).toNat o
def takeA (X : List Int) (o : Int) : Int := if o < 0 then 0 else if holeOf X = -1 then 0 else holeOf X
def takeE (X : List Int) (o : Int) : Int := if o < 0 then 1 else if holeOf X = -1 then 5 else 0
def giveX (X : List Int) (at_ : Int) : List Int := if inP X at_ = false then X else if ow X at_.toNat = -1 then X else X.set at_.toNat (-1)
def giveE (X : List Int) (at_ : Int) : Int := if inP X at_ = false then 1 else if ow X at_.toNat = -1 then 9 else 0
def ownX (X : List Int) (at_ o : Int) : List Int := if inP X at_ = false ∨ o < 0 then X else if ow X at_.toNat = -1 then X else X.set at_.toNat o
def ownE (X : List Int) (at_ o : Int) : Int := if inP X at_ = false ∨ o < 0 then 1 else if ow X at_.toNat = -1 then 9 else 0
/-- Owners are numbers from 0 on, or -1. -/
def Pn (X : List Int) : Prop := ∀ x ∈ X, -1 ≤ x ∧ x ≤ 9223372036854775807

section
variable {X : List Int}
theorem ow_get {k : Nat} (h : k < X.length) : X[k]? = some (ow X k) := by simp [ow, h]
theorem ow_out {k : Nat} (h : X.length ≤ k) : ow X k = -1 := by simp [ow, List.getElem?_eq_none h]
theorem ow_in {k : Nat} (h : ow X k ≠ -1) : k < X.length := by
  rcases Nat.lt_or_ge k X.length with g | g
  · exact g
  · exact absurd (ow_out g) h
theorem ow_set {k j : Nat} {o : Int} (h : k < X.length) : ow (X.set k o) j = if j = k then o else ow X j := by
  unfold ow
  by_cases e : j = k
  · subst e; simp [h]
  · rw [if_neg e, List.getElem?_set_ne (fun q => e q.symm)]
theorem Pn.ow (h : Pn X) (k : Nat) : -1 ≤ ow X k ∧ ow X k ≤ 9223372036854775807 := by
  rcases Nat.lt_or_ge k X.length with g | g
  · exact h _ (List.mem_of_getElem? (ow_get g))
  · rw [ow_out g]; omega
theorem Pn.set (h : Pn X) {k : Nat} {o : Int} (ho : -1 ≤ o ∧ o ≤ 9223372036854775807) : Pn (X.set k o) := by
  intro x hx
  rcases List.mem_or_eq_of_mem_set hx with q | q
  · exact h x q
  · subst q; exact ho
theorem inP_nat {k : Nat} (h : k < X.length) : inP X (k : Int) = true := by simp [inP]; omega
theorem inP_in {n : Int} (h : inP X n = true) : ∃ k : Nat, n = (k : Int) ∧ k < X.length := by
  simp [inP] at h
  exact ⟨n.toNat, by omega, by omega⟩
theorem ownerOf_nat {k : Nat} (h : k < X.length) : ownerOf X (k : Int) = ow X k := by simp [ownerOf, inP_nat h]
theorem ownerOf_off {n : Int} (h : inP X n = false) : ownerOf X n = -1 := by simp [ownerOf, h]
theorem ownerOf_in {n : Int} (h : ownerOf X n ≠ -1) : ∃ k : Nat, n = (k : Int) ∧ k < X.length ∧ ow X k ≠ -1 := by
  cases q : inP X n with
  | false => exact absurd (ownerOf_off q) h
  | true =>
    obtain ⟨k, rfl, hk⟩ := inP_in q
    exact ⟨k, rfl, hk, by rwa [ownerOf_nat hk] at h⟩
theorem Pn.owner (h : Pn X) (n : Int) : -1 ≤ ownerOf X n ∧ ownerOf X n ≤ 9223372036854775807 := by
  unfold ownerOf
  split
  · exact h.ow _
  · omega
theorem inP_set {k : Nat} {o n : Int} : inP (X.set k o) n = inP X n := by simp [inP]
theorem ownerOf_set {k : Nat} {o n : Int} (h : k < X.length) : ownerOf (X.set k o) n = if n = (k : Int) then o else ownerOf X n := by
  unfold ownerOf
  rw [inP_set]
  cases q : inP X n with
  | false =>
    have e : ¬ n = (k : Int) := fun e => by rw [e, inP_nat h] at q; cases q
    rw [if_neg e]
    simp
  | true =>
    obtain ⟨j, rfl, hj⟩ := inP_in q
    rw [if_pos rfl, if_pos rfl, Int.toNat_natCast, ow_set h]
    by_cases e : j = k
    · rw [if_pos e, if_pos (by rw [e])]
    · rw [if_neg e, if_neg (by omega)]

/-! ### Which blocks aren't free, as places that are set -/
theorem used_len : (usedL X).length = X.length := by simp [usedL]
theorem used_bt (k : Nat) : bt (usedL X) k = (ow X k != -1) := by
  unfold bt usedL ow
  rw [List.getElem?_map]
  cases X[k]? with
  | none => simp
  | some x => simp
theorem used_inB (n : Int) : inB (usedL X) n = inP X n := by simp [inB, inP, used_len]
theorem used_set (k : Nat) (o : Int) : usedL (X.set k o) = (usedL X).set k (o != -1) := by simp [usedL, List.map_set]
theorem used_new (n : Nat) : usedL (List.replicate n (-1)) = List.replicate n false := by simp [usedL]
theorem hole_cases (X : List Int) : (holeOf X = -1 ∧ ∀ j, j < X.length → ow X j ≠ -1) ∨ ∃ i : Nat, holeOf X = (i : Int) ∧ i < X.length ∧ ow X i = -1 ∧ ∀ j, j < i → ow X j ≠ -1 := by
  rcases low_cases (usedL X) with ⟨h1, h2⟩ | ⟨i, h1, h2, h3, h4⟩
  · exact Or.inl ⟨h1, fun j hj => by have := h2 j (by rw [used_len]; exact hj); rw [used_bt] at this; simpa using this⟩
  · refine Or.inr ⟨i, h1, by rwa [used_len] at h2, ?_, fun j hj => ?_⟩
    · rw [used_bt] at h3; simpa using h3
    · have := h4 j hj; rw [used_bt] at this; simpa using this
theorem hole_at {i : Nat} (hi : i < X.length) (h : ow X i = -1) (hb : ∀ j, j < i → ow X j ≠ -1) : holeOf X = (i : Int) :=
  low_at (by rw [used_len]; exact hi) (by rw [used_bt, h]; rfl) (fun j hj => by rw [used_bt]; simpa using hb j hj)
theorem hole_none (hb : ∀ j, j < X.length → ow X j ≠ -1) : holeOf X = -1 :=
  low_none (fun j hj => by rw [used_bt]; simpa using hb j (by rwa [used_len] at hj))
theorem top_at {i : Nat} (h : ow X i ≠ -1) (hb : ∀ j, i < j → ow X j = -1) : topOf X = (i : Int) :=
  high_at (by rw [used_bt]; simpa using h) (fun j hj => by rw [used_bt, hb j hj]; rfl)
theorem top_none (hb : ∀ j, ow X j = -1) : topOf X = -1 := high_none (fun j => by rw [used_bt, hb j]; rfl)
theorem used_le (X : List Int) : usedN X ≤ X.length := by
  unfold usedN
  have := List.count_le_length (a := true) (l := usedL X)
  rwa [used_len] at this
/-- None is free just if as many aren't free as there are. -/
theorem full_iff (X : List Int) : (usedN X = X.length) ↔ holeOf X = -1 := by
  unfold usedN
  rw [← used_len (X := X), List.count_eq_length]
  constructor
  · intro h
    exact low_none fun j hj => (h _ (List.mem_of_getElem? (bt_get hj))).symm
  · intro h x hx
    rcases low_cases (usedL X) with ⟨_, h2⟩ | ⟨i, h1, _⟩
    · obtain ⟨k, hk, rfl⟩ := List.getElem_of_mem hx
      have g := bt_get hk
      rw [List.getElem?_eq_getElem hk] at g
      injection g with g
      rw [g, h2 k hk]
    · unfold holeOf at h
      omega
theorem full_beq (X : List Int) : ((usedN X : Int) == (X.length : Int)) = (holeOf X == -1) := by
  have := full_iff X
  by_cases h : holeOf X = -1
  · have g := this.2 h
    rw [h]
    simp [g]
  · have g : usedN X ≠ X.length := fun q => h (this.1 q)
    have e1 : (holeOf X == -1) = false := by simpa using h
    rw [e1]
    simp
    omega

/-! ### What Take, Give, Own leave -/
theorem take_len (o : Int) : (takeX X o).length = X.length := by unfold takeX; split; rfl; split; rfl; rw [List.length_set]
theorem give_len (n : Int) : (giveX X n).length = X.length := by unfold giveX; split; rfl; split; rfl; rw [List.length_set]
theorem own_len (n o : Int) : (ownX X n o).length = X.length := by unfold ownX; split; rfl; split; rfl; rw [List.length_set]
theorem take_neg {o : Int} (h : o < 0) : takeX X o = X ∧ takeA X o = 0 ∧ takeE X o = 1 := by simp [takeX, takeA, takeE, h]
theorem take_full {o : Int} (h : 0 ≤ o) (hf : holeOf X = -1) : takeX X o = X ∧ takeA X o = 0 ∧ takeE X o = 5 := by
  have : ¬ o < 0 := by omega
  simp [takeX, takeA, takeE, this, hf]
theorem take_at {o : Int} (h : 0 ≤ o) {i : Nat} (hf : holeOf X = (i : Int)) : takeX X o = X.set i o ∧ takeA X o = (i : Int) ∧ takeE X o = 0 := by
  have h1 : ¬ o < 0 := by omega
  have h2 : ¬ (i : Int) = -1 := by omega
  simp [takeX, takeA, takeE, h1, hf, h2]
theorem give_off {n : Int} (h : inP X n = false) : giveX X n = X ∧ giveE X n = 1 := by simp [giveX, giveE, h]
theorem give_free {k : Nat} (hk : k < X.length) (h : ow X k = -1) : giveX X (k : Int) = X ∧ giveE X (k : Int) = 9 := by simp [giveX, giveE, inP_nat hk, h]
theorem give_at {k : Nat} (hk : k < X.length) (h : ow X k ≠ -1) : giveX X (k : Int) = X.set k (-1) ∧ giveE X (k : Int) = 0 := by simp [giveX, giveE, inP_nat hk, h]
theorem own_off {n o : Int} (h : inP X n = false ∨ o < 0) : ownX X n o = X ∧ ownE X n o = 1 := by simp [ownX, ownE, h]
theorem own_free {k : Nat} {o : Int} (hk : k < X.length) (ho : 0 ≤ o) (h : ow X k = -1) : ownX X (k : Int) o = X ∧ ownE X (k : Int) o = 9 := by
  have h1 : ¬ o < 0 := by omega
  simp [ownX, ownE, inP_nat hk, h, h1]
theorem own_at {k : Nat} {o : Int} (hk : k < X.length) (ho : 0 ≤ o) (h : ow X k ≠ -1) : ownX X (k : Int) o = X.set k o ∧ ownE X (k : Int) o = 0 := by
  have h1 : ¬ o < 0 := by omega
  simp [ownX, ownE, inP_nat hk, h, h1]
theorem Pn.take (h : Pn X) {o : Int} (ho : o ≤ 9223372036854775807) : Pn (takeX X o) := by
  unfold takeX
  split
  · exact h
  · split
    · exact h
    · exact h.set (by omega)
theorem Pn.give (h : Pn X) (n : Int) : Pn (giveX X n) := by
  unfold giveX
  split
  · exact h
  · split
    · exact h
    · exact h.set (by omega)
theorem Pn.own (h : Pn X) (n : Int) {o : Int} (ho : o ≤ 9223372036854775807) : Pn (ownX X n o) := by
  unfold ownX
  split
  · exact h
  · rename_i q
    split
    · exact h
    · exact h.set (by omega)
end
end Go.Proofs.Ytijkigibcpgciaa.Pg
