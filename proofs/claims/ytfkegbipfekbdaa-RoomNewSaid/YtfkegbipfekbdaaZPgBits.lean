import Derived.Test.YtfkegbipfekbdaaZPgBitsNum
import Derived.Test.YtfkegbipfekbdaaRows
import Derived.Deep.QuietTactic
import Derived.BigQuiet
import Derived.Deep.Draws
import Derived.Deep.RegionWith
import Derived.Deep.RegionLaw
import Derived.Deep.RegionHeld3
import Derived.Deep.DeepCutAuto
import Derived.BigRegion
import Derived.Laws.Bits64b
import Derived.Lib.Hide
/-
  The owners of a page's blocks as a plain list of numbers, -1 of a free one: what Take, Give, Own answer, and what is left. No statement about a Go function.
-/
namespace Go.Proofs.Ytfkegbipfekbdaa.Pg

/-- The owner of block k; -1, if it is free, or there is none. -/
def ow (X : List Int) (k : Nat) : Int := X[k]?.getD (-1)
/-- Is there such a block? -/
def inP (X : List Int) (at_ : Int) : Bool := decide (0 ≤ at_) && decide (at_ < (X.length : Int))
def ownerOf (X : List Int) (at_ : Int) : Int := if inP X at_ = true then ow X at_.toNat else -1
/-- Which blocks aren't free. -/
def usedL (X : List Int) : List Bool := X.map fun x => x != -1
def holeOf (X : List Int) : Int := lowOf (usedL X)
def topOf (X : List Int) : Int := highOf (usedL X)
def usedN (X : List Int) : Nat := (usedL X).count true
/-- Take: the owners behind it, the block, what is wrong. -/
def takeX (X : List Int) (o : Int) : List Int := if o < 0 then X else if holeOf X = -1 then X else X.set (holeOf X).toNat o
def takeA (X : List Int) (o : Int) : Int := if o < 0 then 0 else if holeOf X = -1 then 0 else holeOf X
def takeE (X : List Int) (o : Int) : Int := if o < 0 then 1 else if holeOf X = -1 then 5 else 0
def giveX (X : List Int) (at_ : Int) : List Int := if inP X at_ = false then X else if ow X at_.toNat = -1 then X else X.set at_.toNat (-1)
def giveE (X : List Int) (at_ : Int) : Int := if inP X at_ = false then 1 else if ow X at_.toNat = -1 then 9 else 0
def ownX (X : List Int) (at_ o : Int) : List Int := if inP X at_ = false ∨ o < 0 then X else if ow X at_.toNat = -1 then X else X.set at_.toNat o
def ownE (X : List Int) (at_ o : Int) : Int := if inP X at_ = false ∨ o < 0 then 1 else if ow X at_.toNat = -1 then 9 else 0
/-- Owners are numbers from 0 on, or -1. -/
def Pn (X : List Int) : Prop := ∀ x ∈ X, -1 ≤ x ∧ x ≤ 9223372036854775807

section
variable {X : List Int}
theorem ow_get {k : Nat} (h : k < X.length) : X[k]? = some (ow X k) := by simp [ow, h]
theorem ow_out {k : Nat} (h : X.length ≤ k) : ow X k = -1 := by simp [ow, List.getElem?_eq_none h]
theorem ow_in {k : Nat} (h : ow X k ≠ -1) : k < X.length := by
  rcases Nat.lt_or_ge k X.length with g | g
  · exact g
  · exact absurd (ow_out g) h
theorem ow_set {k j : Nat} {o : Int} (h : k < X.length) : ow (X.set k o) j = if j = k then o else ow X j := by
  unfold ow
  by_cases e : j = k
  · subst e; simp [h]
  · rw [if_neg e, List.getElem?_set_ne (fun q => e q.symm)]
theorem Pn.ow (h : Pn X) (k : Nat) : -1 ≤ ow X k ∧ ow X k ≤ 9223372036854775807 := by
  rcases Nat.lt_or_ge k X.length with g | g
  · exact h _ (List.mem_of_getElem? (ow_get g))
  · rw [ow_out g]; omega
theorem Pn.set (h : Pn X) {k : Nat} {o : Int} (ho : -1 ≤ o ∧ o ≤ 9223372036854775807) : Pn (X.set k o) := by
  intro x hx
  rcases List.mem_or_eq_of_mem_set hx with q | q
  · exact h x q
  · subst q; exact ho
theorem inP_nat {k : Nat} (h : k < X.length) : inP X (k : Int) = true := by simp [inP]; omega
theorem inP_in {n : Int} (h : inP X n = true) : ∃ k : Nat, n = (k : Int) ∧ k < X.length := by
  simp [inP] at h
  exact ⟨n.toNat, by omega, by omega⟩
theorem ownerOf_nat {k : Nat} (h : k < X.length) : ownerOf X (k : Int) = ow X k := by simp [ownerOf, inP_nat h]
theorem ownerOf_off {n : Int} (h : inP X n = false) : ownerOf X n = -1 := by simp [ownerOf, h]
theorem ownerOf_in {n : Int} (h : ownerOf X n ≠ -1) : ∃ k : Nat, n = (k : Int) ∧ k < X.length ∧ ow X k ≠ -1 := by
  cases q : inP X n with
  | false => exact absurd (ownerOf_off q) h
  | true =>
    obtain ⟨k, rfl, hk⟩ := inP_in q
    exact ⟨k, rfl, hk, by rwa [ownerOf_nat hk] at h⟩
theorem Pn.owner (h : Pn X) (n : Int) : -1 ≤ ownerOf X n ∧ ownerOf X n ≤ 9223372036854775807 := by
  unfold ownerOf
  split
  · exact h.ow _
  · omega
theorem inP_set {k : Nat} {o n : Int} : inP (X.set k o) n = inP X n := by simp [inP]
theorem ownerOf_set {k : Nat} {o n : Int} (h : k < X.length) : ownerOf (X.set k o) n = if n = (k : Int) then o else ownerOf X n := by
  unfold ownerOf
  rw [inP_set]
  cases q : inP X n with
  | false =>
    have e : ¬ n = (k : Int) := fun e => by rw [e, inP_nat h] at q; cases q
    rw [if_neg e]
    simp
  | true =>
    obtain ⟨j, rfl, hj⟩ := inP_in q
    rw [if_pos rfl, if_pos rfl, Int.toNat_natCast, ow_set h]
    by_cases e : j = k
    · rw [if_pos e, if_pos (by rw [e])]
    · rw [if_neg e, if_neg (by omega)]

/-! ### Which blocks aren't free, as places that are set -/
theorem used_len : (usedL X).length = X.length := by simp [usedL]
theorem used_bt (k : Nat) : bt (usedL X) k = (ow X k != -1) := by
  unfold bt usedL ow
  rw [List.getElem?_map]
  cases X[k]? with
  | none => simp
  | some x => simp
theorem used_inB (n : Int) : inB (usedL X) n = inP X n := by simp [inB, inP, used_len]
theorem used_set (k : Nat) (o : Int) : usedL (X.set k o) = (usedL X).set k (o != -1) := by simp [usedL, List.map_set]
theorem used_new (n : Nat) : usedL (List.replicate n (-1)) = List.replicate n false := by simp [usedL]
theorem hole_cases (X : List Int) : (holeOf X = -1 ∧ ∀ j, j < X.length → ow X j ≠ -1) ∨ ∃ i : Nat, holeOf X = (i : Int) ∧ i < X.length ∧ ow X i = -1 ∧ ∀ j, j < i → ow X j ≠ -1 := by
  rcases low_cases (usedL X) with ⟨h1, h2⟩ | ⟨i, h1, h2, h3, h4⟩
  · exact Or.inl ⟨h1, fun j hj => by have := h2 j (by rw [used_len]; exact hj); rw [used_bt] at this; simpa using this⟩
  · refine Or.inr ⟨i, h1, by rwa [used_len] at h2, ?_, fun j hj => ?_⟩
    · rw [used_bt] at h3; simpa using h3
    · have := h4 j hj; rw [used_bt] at this; simpa using this
theorem hole_at {i : Nat} (hi : i < X.length) (h : ow X i = -1) (hb : ∀ j, j < i → ow X j ≠ -1) : holeOf X = (i : Int) :=
  low_at (by rw [used_len]; exact hi) (by rw [used_bt, h]; rfl) (fun j hj => by rw [used_bt]; simpa using hb j hj)
theorem hole_none (hb : ∀ j, j < X.length → ow X j ≠ -1) : holeOf X = -1 :=
  low_none (fun j hj => by rw [used_bt]; simpa using hb j (by rwa [used_len] at hj))
theorem top_at {i : Nat} (h : ow X i ≠ -1) (hb : ∀ j, i < j → ow X j = -1) : topOf X = (i : Int) :=
  high_at (by rw [used_bt]; simpa using h) (fun j hj => by rw [used_bt, hb j hj]; rfl)
theorem top_none (hb : ∀ j, ow X j = -1) : topOf X = -1 := high_none (fun j => by rw [used_bt, hb j]; rfl)
theorem used_le (X : List Int) : usedN X ≤ X.length := by
  unfold usedN
  have := List.count_le_length (a := true) (l := usedL X)
  rwa [used_len] at this
/-- None is free just if as many aren't free as there are. -/
theorem full_iff (X : List Int) : (usedN X = X.length) ↔ holeOf X = -1 := by
  unfold usedN
  rw [← used_len (X := X), List.count_eq_length]
  constructor
  · intro h
    exact low_none fun j hj => (h _ (List.mem_of_getElem? (bt_get hj))).symm
  · intro h x hx
    rcases low_cases (usedL X) with ⟨_, h2⟩ | ⟨i, h1, _⟩
    · obtain ⟨k, hk, rfl⟩ := List.getElem_of_mem hx
      have g := bt_get hk
      rw [List.getElem?_eq_getElem hk] at g
      injection g with g
      rw [g, h2 k hk]
    · unfold holeOf at h
      omega
theorem full_beq (X : List Int) : ((usedN X : Int) == (X.length : Int)) = (holeOf X == -1) := by
  have := full_iff X
  by_cases h : holeOf X = -1
  · have g := this.2 h
    rw [h]
    simp [g]
  · have g : usedN X ≠ X.length := fun q => h (this.1 q)
    have e1 : (holeOf X == -1) = false := by simpa using h
    rw [e1]
    simp
    omega

/-! ### What Take, Give, Own leave -/
theorem take_len (o : Int) : (takeX X o).length = X.length := by unfold takeX; split; rfl; split; rfl; rw [List.length_set]
theorem give_len (n : Int) : (giveX X n).length = X.length := by unfold giveX; split; rfl; split; rfl; rw [List.length_set]
theorem own_len (n o : Int) : (ownX X n o).length = X.length := by unfold ownX; split; rfl; split; rfl; rw [List.length_set]
theorem take_neg {o : Int} (h : o < 0) : takeX X o = X ∧ takeA X o = 0 ∧ takeE X o = 1 := by simp [takeX, takeA, takeE, h]
theorem take_full {o : Int} (h : 0 ≤ o) (hf : holeOf X = -1) : takeX X o = X ∧ takeA X o = 0 ∧ takeE X o = 5 := by
  have : ¬ o < 0 := by omega
  simp [takeX, takeA, takeE, this, hf]
theorem take_at {o : Int} (h : 0 ≤ o) {i : Nat} (hf : holeOf X = (i : Int)) : takeX X o = X.set i o ∧ takeA X o = (i : Int) ∧ takeE X o = 0 := by
  have h1 : ¬ o < 0 := by omega
  have h2 : ¬ (i : Int) = -1 := by omega
  simp [takeX, takeA, takeE, h1, hf, h2]
theorem give_off {n : Int} (h : inP X n = false) : giveX X n = X ∧ giveE X n = 1 := by simp [giveX, giveE, h]
theorem give_free {k : Nat} (hk : k < X.length) (h : ow X k = -1) : giveX X (k : Int) = X ∧ giveE X (k : Int) = 9 := by simp [giveX, giveE, inP_nat hk, h]
theorem give_at {k : Nat} (hk : k < X.length) (h : ow X k ≠ -1) : giveX X (k : Int) = X.set k (-1) ∧ giveE X (k : Int) = 0 := by simp [giveX, giveE, inP_nat hk, h]
theorem own_off {n o : Int} (h : inP X n = false ∨ o < 0) : ownX X n o = X ∧ ownE X n o = 1 := by simp [ownX, ownE, h]
theorem own_free {k : Nat} {o : Int} (hk : k < X.length) (ho : 0 ≤ o) (h : ow X k = -1) : ownX X (k : Int) o = X ∧ ownE X (k : Int) o = 9 := by
  have h1 : ¬ o < 0 := by omega
  simp [ownX, ownE, inP_nat hk, h, h1]
theorem own_at {k : Nat} {o : Int} (hk : k < X.length) (ho : 0 ≤ o) (h : ow X k ≠ -1) : ownX X (k : Int) o = X.set k o ∧ ownE X (k : Int) o = 0 := by
  have h1 : ¬ o < 0 := by omega
  simp [ownX, ownE, inP_nat hk, h, h1]
theorem Pn.take (h : Pn X) {o : Int} (ho : o ≤ 9223372036854775807) : Pn (takeX X o) := by
  unfold takeX
  split
  · exact h
  · split
    · exact h
    · exact h.set (by omega)
theorem Pn.give (h : Pn X) (n : Int) : Pn (giveX X n) := by
  unfold giveX
  split
  · exact h
  · split
    · exact h
    · exact h.set (by omega)
theorem Pn.own (h : Pn X) (n : Int) {o : Int} (ho : o ≤ 9223372036854775807) : Pn (ownX X n o) := by
  unfold ownX
  split
  · exact h
  · rename_i q
    split
    · exact h
    · exact h.set (by omega)
end
end Go.Proofs.Ytfkegbipfekbdaa.Pg
/-
  'But S w w'': of the blocks that were there only those in S may have turned. For calls that write through a pointer. No statement about a Go function.
-/
namespace Go.Proofs.Ytfkegbipfekbdaa
open Go.ChangeShapes Go.WideShapes Go.ChangeAt Go.RowKit

/-- Of the blocks that were there only those in S may have turned; the streams are as they were; no block has gone. -/
structure But (S : Nat → Prop) (w w' : World) : Prop where
  os : w'.os = w.os
  tape : w'.tape = w.tape
  output : w'.output = w.output
  size : w.heap.size ≤ w'.heap.size
  block : ∀ k, k < w.heap.size → ¬ S k → w'.heap[k]? = w.heap[k]?

section
variable {S T : Nat → Prop} {a b c w w' : World} {B : Nat}
theorem But.refl (S : Nat → Prop) (w : World) : But S w w := ⟨rfl, rfl, rfl, Nat.le_refl _, fun _ _ _ => rfl⟩
/-- One call behind another: what the second may turn is let by, or was made meanwhile. -/
theorem But.then (h : But S a b) (k : But T b c) (hT : ∀ i, i < a.heap.size → T i → S i) : But S a c :=
  ⟨k.os.trans h.os, k.tape.trans h.tape, k.output.trans h.output, Nat.le_trans h.size k.size, fun i hi hn => (k.block i (Nat.lt_of_lt_of_le hi h.size) (fun t => hn (hT i hi t))).trans (h.block i hi hn)⟩
theorem But.trans (h : But S a b) (k : But S b c) : But S a c := h.then k fun _ _ s => s
theorem But.mono (h : But S w w') (hS : ∀ i, i < w.heap.size → S i → T i) : But T w w' := ⟨h.os, h.tape, h.output, h.size, fun i hi hn => h.block i hi (fun s => hn (hS i hi s))⟩
theorem But.drew (h : But S a w) : But S a w.drew := ⟨h.os, h.tape, h.output, h.size, h.block⟩
theorem But.drewN (h : But S a w) (k : Nat) : But S a (w.drewN k) := ⟨h.os, h.tape, h.output, h.size, h.block⟩
theorem But.alloc (h : But S a w) (o : Obj) : But S a (w.alloc o) := h.trans ⟨rfl, rfl, rfl, by simp, fun _ hk _ => Below.heap_alloc _ _ _ hk⟩
theorem But.setCell (h : But S a w) {p : Addr} (hp : p.block < a.heap.size → S p.block) (u : Value) : But S a (w.setCell p u) :=
  h.then (T := fun i => i = p.block) ⟨rfl, rfl, rfl, by simp [World.setCell], fun k _ hk => Below.heap_setCell _ _ _ _ hk⟩ fun i hi e => by subst e; exact hp hi
theorem But.cell (h : But S w w') {p : Addr} (hp : p.block < w.heap.size) (hn : ¬ S p.block) : w'.cell? p = w.cell? p := World.cell?_of_block (w := w) (h.block p.block hp hn)
theorem But.frozen (h : But S w w') {p : Addr} (hp : p.block < w.heap.size) (hn : ¬ S p.block) : w'.frozen? p = w.frozen? p := World.frozen?_of_block (w := w) (h.block p.block hp hn)
theorem But.below (h : But S w w') (hB : B ≤ w.heap.size) (hn : ∀ k, k < B → ¬ S k) : Below B w w' := ⟨h.os, h.tape, h.output, h.size, fun k hk => h.block k (by omega) (hn k hk)⟩
theorem Below.but (h : Below w.heap.size w w') (S : Nat → Prop) : But S w w' := ⟨h.os, h.tape, h.output, h.size, fun k hk _ => h.block k hk⟩
/-- One block may have turned, and it lies from B on. -/
theorem But.one {g : Nat} (h : But (· = g) w w') (hB : B ≤ w.heap.size) (hg : B ≤ g) : Below B w w' := h.below hB fun k hk e => by omega
end
theorem lt_of_cell {w : World} {p : Addr} {v : Value} (h : w.cell? p = some v) : p.block < w.heap.size := by
  rcases Nat.lt_or_ge p.block w.heap.size with g | g
  · exact g
  · simp [World.cell?, Array.getElem?_eq_none g] at h
end Go.Proofs.Ytfkegbipfekbdaa
/-
  Imports alone: what walks with drawn regions that only read use.
-/
/-
  Imports alone: what walks with drawn regions use.
-/
/-
  Package bits, its ground: what Bits are in memory ('Bm'); New, mask, already, may, Has.
-/
namespace Go.Proofs.Ytfkegbipfekbdaa.Pg
open Go.ChangeShapes Go.WideShapes Go.ChangeAt Go.RowKit
set_option maxRecDepth 100000

/-- Block p are Bits: eight words W, and how many places there are; the words stand for L. -/
structure Bw (w : World) (p : Nat) (W : Nat → Nat) (L : List Bool) : Prop where
  c : ∀ n, n < 8 → w.cell? ⟨p, n, none⟩ = some (.int .u64 (W n : Int))
  m : w.cell? ⟨p, 8, none⟩ = some (.int .i64 (L.length : Int))
  f : ∀ n, n < 8 → w.frozen? ⟨p, n, none⟩ = false
  wd : ∀ n, n < 8 → Wd (W n) L (n * 64)
  l1 : 1 ≤ L.length
  l2 : L.length ≤ 512
def Bm (w : World) (p : Nat) (L : List Bool) : Prop := ∃ W, Bw w p W L
section
variable {w w' : World} {p : Nat} {W : Nat → Nat} {L : List Bool} {S : Nat → Prop}
theorem Bw.size (h : Bw w p W L) : p < w.heap.size := lt_of_cell (p := ⟨p, 8, none⟩) h.m
theorem Bm.size (h : Bm w p L) : p < w.heap.size := by obtain ⟨W, h⟩ := h; exact h.size
theorem Bw.but (h : Bw w p W L) (hb : But S w w') (hn : ¬ S p) : Bw w' p W L :=
  ⟨fun n hl => (hb.cell (p := ⟨p, n, none⟩) h.size hn).trans (h.c n hl), (hb.cell (p := ⟨p, 8, none⟩) h.size hn).trans h.m, fun n hl => (hb.frozen (p := ⟨p, n, none⟩) h.size hn).trans (h.f n hl), h.wd, h.l1, h.l2⟩
theorem Bm.but (h : Bm w p L) (hb : But S w w') (hn : ¬ S p) : Bm w' p L := by obtain ⟨W, h⟩ := h; exact ⟨W, h.but hb hn⟩
theorem Bm.below (h : Bm w p L) (hb : Below w.heap.size w w') : Bm w' p L := h.but (Below.but hb fun _ => False) id
theorem Bm.drewN (h : Bm w p L) (k : Nat) : Bm (w.drewN k) p L := h.but ((But.refl (fun _ => False) w).drewN k) id
theorem Bm.l1 (h : Bm w p L) : 1 ≤ L.length := by obtain ⟨W, h⟩ := h; exact h.l1
theorem Bm.l2 (h : Bm w p L) : L.length ≤ 512 := by obtain ⟨W, h⟩ := h; exact h.l2
end

theorem mask_any (n : Nat) (hn : n < 512) (w : World) : Calls Try.prog 102 #[.int .i64 (n : Int)] w fun e w' => e = .returned (.int .u64 ((2 ^ (n % 64) : Nat) : Int)) ∧ w = w' := by
  go_enter Try.func102, Try.ntmps102
  go_wp2
  go_ret
  refine ⟨?_, rfl⟩
  have hf := pow_fit (Nat.mod_lt n (show 64 > 0 by omega))
  have he : ((2 ^ (n % 64) : Nat) : Int) = (2 : Int) ^ (n % 64) := by simp
  show Ending.returned (.int .u64 (IntKind.u64.wrap ((2 : Int) ^ (n % 64)))) = _
  rw [← he, IntKind.wrap_u64]
  generalize 2 ^ (n % 64) = y at hf ⊢
  congr 2
  omega
theorem already_any (b : Bool) (w : World) : Calls Try.prog 105 #[.bool b] w (R1 (if b = true then 10 else 9) w) := by
  cases b with
  | true =>
    go_enter Try.func105, Try.ntmps105
    go_wp2
    go_ret
    exact ⟨rfl, rfl⟩
  | false =>
    go_enter Try.func105, Try.ntmps105
    go_wp2
    go_ret
    exact ⟨rfl, rfl⟩
theorem may_nil (n : Int) (w : World) : Calls Try.prog 103 #[.pointer none, .int .i64 n] w (B1 false w) := by
  go_enter Try.func103, Try.ntmps103
  go_wp2
  go_ret
  exact ⟨rfl, rfl⟩
section
variable {w : World} {p : Nat} {L : List Bool}
theorem may_any (h : Bm w p L) (n : Int) : Calls Try.prog 103 #[.pointer (some ⟨p, 0, none⟩), .int .i64 n] w (B1 (inB L n) w) := by
  obtain ⟨W, h⟩ := h
  have hm := h.m
  clear h
  unfold inB
  go_enter Try.func103, Try.ntmps103
  go_wp2
  all_goals
    go_ret
    refine ⟨?_, rfl⟩
    first | (simp_all; done) | (simp_all; omega)
theorem inB_in {n : Int} (h : inB L n = true) : ∃ k : Nat, n = (k : Int) ∧ k < L.length := by
  simp [inB] at h
  exact ⟨n.toNat, by omega, by omega⟩
theorem inB_nat {k : Nat} (h : k < L.length) : inB L (k : Int) = true := by simp [inB]; omega
theorem has_nil (n : Int) (w : World) : Calls Try.prog 104 #[.pointer none, .int .i64 n] w (BQ false w) := by
  have HM := Lib.hid (fun d => may_nil n (w.drewN d))
  go_enter Try.func104, Try.ntmps104
  go_wp2_with fail
  go_quiet ((go_at_call 103; exact quiet1 (HM.out _)))
  go_wp2
  go_ret
  exact ⟨rfl, _, rfl⟩
theorem has_off (h : Bm w p L) (n : Int) (hn : inB L n = false) : Calls Try.prog 104 #[.pointer (some ⟨p, 0, none⟩), .int .i64 n] w (BQ false w) := by
  have HM := Lib.hid (fun d => may_any (h.drewN d) n)
  rw [hn] at HM
  clear hn h
  go_enter Try.func104, Try.ntmps104
  go_wp2_with fail
  go_quiet ((go_at_call 103; exact quiet1 (HM.out _)))
  go_wp2
  go_ret
  exact ⟨rfl, _, rfl⟩
/-- A word, and one of its bits, as Go's '&' tells. -/
theorem and_word {x k : Nat} (h : Wd x L (k / 64 * 64)) : bits .and .u64 (x : Int) ((2 ^ (k % 64) : Nat) : Int) = ((x &&& 2 ^ (k % 64) : Nat) : Int) ∧ ((x &&& 2 ^ (k % 64) : Nat) = 0 ↔ bt L k = false) := by
  have h64 : k % 64 < 64 := Nat.mod_lt _ (by omega)
  refine ⟨bits_and_u64_nat _ _ h.1 (pow_fit h64), ?_⟩
  rw [and_zero, h.2 _ h64, show k / 64 * 64 + k % 64 = k by omega]
theorem has_on (h : Bm w p L) (k : Nat) (hk : k < L.length) : Calls Try.prog 104 #[.pointer (some ⟨p, 0, none⟩), .int .i64 (k : Int)] w (BQ (bt L k) w) := by
  have HM := Lib.hid (fun d => may_any (h.drewN d) (k : Int))
  rw [inB_nat hk] at HM
  have l2 := h.l2
  have HK := Lib.hid (fun d => mask_any k (by omega) (w.drewN d))
  obtain ⟨W, h⟩ := h
  have hc := h.c (k / 64) (by omega)
  obtain ⟨ea, ez⟩ := and_word (h.wd (k / 64) (by omega))
  have en : ((((W (k / 64) &&& 2 ^ (k % 64) : Nat) : Int)) != 0) = bt L k := by
    cases b : bt L k
    · rw [ez.2 b]; rfl
    · have : (W (k / 64) &&& 2 ^ (k % 64) : Nat) ≠ 0 := fun q => by rw [ez.1 q] at b; cases b
      simp
      omega
  generalize (W (k / 64) &&& 2 ^ (k % 64) : Nat) = y at ea en
  generalize (2 ^ (k % 64) : Nat) = z at ea HK
  generalize W (k / 64) = x at ea hc
  generalize bt L k = b at en ⊢
  have hk2 : k < 512 := by omega
  clear ez h hk l2
  go_enter Try.func104, Try.ntmps104
  go_wp2_with fail
  go_quiet ((first
    | (go_at_call 103; exact quiet1 (HM.out _))
    | (go_at_call 102; exact quiet1 (HK.out _))))
  go_wp2
  go_ret
  exact ⟨rfl, _, rfl⟩
theorem has_any (h : Bm w p L) (n : Int) : Calls Try.prog 104 #[.pointer (some ⟨p, 0, none⟩), .int .i64 n] w (BQ (hasOf L n) w) := by
  unfold hasOf
  cases q : inB L n with
  | false => exact has_off h n q
  | true =>
    obtain ⟨k, rfl, hk⟩ := inB_in q
    exact has_on h k hk
end
end Go.Proofs.Ytfkegbipfekbdaa.Pg
