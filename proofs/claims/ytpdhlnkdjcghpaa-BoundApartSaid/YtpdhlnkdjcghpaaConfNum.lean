/-
  The plain answers of package conf as functions of numbers and lists: sizeB, large, keepB, confB, sizeAt, blocks, small; and what follows of them. No statement about a Go function.
-/
import Derived.Test.YtpdhlnkdjcghpaaClassNum
import Derived.Test.YtpdhlnkdjcghpaaFresh
namespace Go.Proofs.Ytpdhlnkdjcghpaa
open Go.RowKit

/-- A layout: its numbers, its two slices, and the lists that they read as. -/
structure Cf where
  size : Int
  pages : Int
  ca : Option Addr
  cn : Nat
  cc : Nat
  ka : Option Addr
  kn : Nat
  kc : Nat
  step : Int
  slots : Int
  gens : Int
  most : Int
  xs : List Int
  ks : List Int

def Fit (n : Int) : Prop := -9223372036854775808 ≤ n ∧ n ≤ 9223372036854775807

/-- The layout's slices read as its lists, and its numbers are ints of 64 bits. -/
structure Cf.Ok (w : World) (B : Nat) (c : Cf) : Prop where
  classes : Ints w B c.ca c.cn c.xs
  keep : Ints w B c.ka c.kn c.ks
  size : Fit c.size
  pages : Fit c.pages
  step : Fit c.step
  slots : Fit c.slots
  gens : Fit c.gens
  most : Fit c.most

section
variable {w w' : World} {B B' : Nat} {c : Cf}
theorem Cf.Ok.stay (h : c.Ok w B) (hk : ∀ p : Addr, p.block < B → w'.cell? p = w.cell? p) : c.Ok w' B := { h with classes := h.classes.keep hk, keep := h.keep.keep hk }
theorem Cf.Ok.more (h : c.Ok w B) (hB : B ≤ B') : c.Ok w B' := { h with classes := h.classes.more hB, keep := h.keep.more hB }
theorem Cf.Ok.below (h : c.Ok w B) (hb : Below B w w') : c.Ok w' B := h.stay fun _ hp => hb.cell hp
theorem Cf.Ok.on (h : c.Ok w w.heap.size) (hb : Below w.heap.size w w') : c.Ok w' w'.heap.size := (h.below hb).more hb.size
theorem Cf.Ok.drewN (h : c.Ok w B) (k : Nat) : c.Ok (w.drewN k) B := { h with classes := h.classes.drewN k, keep := h.keep.drewN k }
theorem Cf.Ok.drew (h : c.Ok w B) : c.Ok w.drew B := { h with classes := h.classes.drew, keep := h.keep.drew }
theorem Cf.Ok.alloc (h : c.Ok w B) (hB : B ≤ w.heap.size) (o : Obj) : c.Ok (w.alloc o) B := { h with classes := h.classes.alloc hB o, keep := h.keep.alloc hB o }
end

/-! ### Sizes of pages -/
def inB (n lo hi : Int) : Bool := decide (lo ≤ n) && decide (n ≤ hi)
theorem inB_true {n lo hi : Int} : inB n lo hi = true ↔ lo ≤ n ∧ n ≤ hi := by simp [inB]
theorem inB_low {n lo hi : Int} (h : n < lo) : inB n lo hi = false := by simp [inB]; omega
theorem inB_high {n lo hi : Int} (h : hi < n) : inB n lo hi = false := by simp [inB]; omega
theorem inB_not {n lo hi : Int} (h : lo ≤ n) : inB n lo hi = !decide (hi < n) := by
  by_cases c : hi < n
  · rw [inB_high c]; simp [c]
  · rw [inB_true.2 ⟨h, by omega⟩]; simp [c]
def sizeB (s : Int) : Bool := inB s 64 4096 && (s % 8 == 0)
theorem sizeB_true {s : Int} : sizeB s = true ↔ 64 ≤ s ∧ s ≤ 4096 ∧ s % 8 = 0 := by simp [sizeB, inB, and_assoc]
def large (s : Int) : Int := if sizeB s = true then s * s / 8 else 0
theorem large_off {s : Int} (h : sizeB s = false) : large s = 0 := by simp [large, h]
theorem large_on {s : Int} (h : sizeB s = true) : large s = s * s / 8 := by simp [large, h]
/-- Size by size words: eight times the quotient is the size. -/
theorem large_words {s : Int} (h : sizeB s = true) : large s = s * (s / 8) := by
  rw [large_on h]
  obtain ⟨_, _, h3⟩ := sizeB_true.1 h
  have e : s = 8 * (s / 8) := by omega
  have e2 : s * s = 8 * (s * (s / 8)) := by
    calc s * s = s * (8 * (s / 8)) := by rw [← e]
      _ = 8 * (s * (s / 8)) := by rw [← Int.mul_assoc, Int.mul_comm s 8, Int.mul_assoc]
  rw [e2, Int.mul_ediv_cancel_left _ (by omega)]
theorem square_bounds {s : Int} (h1 : 64 ≤ s) (h2 : s ≤ 4096) : 4096 ≤ s * s ∧ s * s ≤ 16777216 := by
  have a : 64 * 64 ≤ s * s := Int.mul_le_mul h1 h1 (by omega) (by omega)
  have b : s * s ≤ 4096 * 4096 := Int.mul_le_mul h2 h2 (by omega) (by omega)
  omega
theorem words_bounds {s : Int} (h1 : 64 ≤ s) (h2 : s ≤ 4096) : 512 ≤ s * (s / 8) ∧ s * (s / 8) ≤ 2097152 := by
  have a : 64 * 8 ≤ s * (s / 8) := Int.mul_le_mul h1 (by omega) (by omega) (by omega)
  have b : s * (s / 8) ≤ 4096 * 512 := Int.mul_le_mul h2 (by omega) (by omega) (by omega)
  omega
theorem large_bounds (s : Int) : 0 ≤ large s ∧ large s ≤ 2097152 := by
  cases h : sizeB s with
  | false => rw [large_off h]; omega
  | true =>
    obtain ⟨h1, h2, _⟩ := sizeB_true.1 h
    have := words_bounds h1 h2
    rw [large_words h]; omega
theorem large_pos {s : Int} (h : sizeB s = true) : 512 ≤ large s := by
  obtain ⟨h1, h2, _⟩ := sizeB_true.1 h
  have := words_bounds h1 h2
  rw [large_words h]; omega

/-! ### What may stay open -/
def keepB (ks : List Int) (n : Nat) : Bool := (ks.length == n) && ks.all fun x => inB x 0 1024
/-- The first k are as they may be. -/
def KeptTo (ks : List Int) (k : Nat) : Prop := ∀ (j : Nat) (s : Int), j < k → ks[j]? = some s → inB s 0 1024 = true
theorem KeptTo.zero (ks : List Int) : KeptTo ks 0 := fun _ _ h => absurd h (by omega)
theorem KeptTo.next {ks : List Int} {k : Nat} {s : Int} (h : KeptTo ks k) (hk : ks[k]? = some s) (hs : inB s 0 1024 = true) : KeptTo ks (k + 1) := by
  intro j t hj ht
  by_cases e : j = k
  · subst e; rw [hk] at ht; injection ht with ht; rw [← ht]; exact hs
  · exact h j t (by omega) ht
theorem keepB_len {ks : List Int} {n : Nat} (h : ks.length ≠ n) : keepB ks n = false := by simp [keepB, h]
theorem keepB_bad {ks : List Int} {n k : Nat} {s : Int} (hk : ks[k]? = some s) (hs : inB s 0 1024 = false) : keepB ks n = false := by
  have hm := List.mem_of_getElem? hk
  have : ks.all (fun x => inB x 0 1024) = false := by
    rw [List.all_eq_false]; exact ⟨s, hm, by simp [hs]⟩
  simp [keepB, this]
theorem keepB_done {ks : List Int} {n : Nat} (hn : ks.length = n) (h : KeptTo ks n) : keepB ks n = true := by
  have : ks.all (fun x => inB x 0 1024) = true := by
    rw [List.all_eq_true]; intro x hx
    obtain ⟨j, hj, e⟩ := List.mem_iff_getElem.1 hx
    exact h j x (by omega) (by rw [List.getElem?_eq_getElem hj, e])
  simp [keepB, hn, this]
theorem keepB_true {ks : List Int} {n : Nat} (h : keepB ks n = true) : ks.length = n ∧ ∀ (j : Nat) (s : Int), ks[j]? = some s → 0 ≤ s ∧ s ≤ 1024 := by
  simp only [keepB, Bool.and_eq_true, beq_iff_eq, List.all_eq_true] at h
  exact ⟨h.1, fun j s hs => inB_true.1 (h.2 s (List.mem_of_getElem? hs))⟩

/-! ### Whether a heap may be -/
def confB (c : Cf) : Bool :=
  sizeB c.size && (inB c.pages 1 1024 && (mayB c.xs c.size && (keepB c.ks c.cn && (inB c.step 1 65536 && (inB c.slots 1 4096 && (inB c.gens 1 1023 && inB c.most 1 (large c.size)))))))
def confMay (c : Cf) : Int := if confB c = true then 0 else 1
theorem may_eq (xs : List Int) (g : Int) : (may xs g == 0) = mayB xs g := by unfold may; cases mayB xs g <;> rfl
theorem confMay_01 (c : Cf) : confMay c = 0 ∨ confMay c = 1 := by unfold confMay; split <;> simp
theorem confMay_on {c : Cf} (h : confB c = true) : confMay c = 0 := by simp [confMay, h]
theorem confMay_off {c : Cf} (h : confB c = false) : confMay c = 1 := by simp [confMay, h]
theorem confB_of {c : Cf} (h : confMay c = 0) : confB c = true := by
  unfold confMay at h; split at h
  · assumption
  · omega

/-! ### Blocks -/
def sizeAt (xs : List Int) (k : Int) : Int := if k < 0 then 0 else (xs[k.toNat]?).getD 0
theorem sizeAt_neg {xs : List Int} {k : Int} (h : k < 0) : sizeAt xs k = 0 := if_pos h
theorem sizeAt_far {xs : List Int} {k : Int} (h : (xs.length : Int) ≤ k) : sizeAt xs k = 0 := by
  unfold sizeAt; split
  · rfl
  · rw [List.getElem?_eq_none (by omega)]; rfl
theorem sizeAt_at {xs : List Int} {k : Nat} {s : Int} (h : xs[k]? = some s) : sizeAt xs (k : Int) = s := by
  unfold sizeAt; rw [if_neg (by omega), Int.toNat_natCast, h]; rfl
def blocks (c : Cf) (k : Int) : Int := whole c.size (sizeAt c.xs k)
def small (c : Cf) : Int := sizeAt c.xs ((c.xs.length : Int) - 1)
theorem sizeAt_fit {w : World} {B n : Nat} {a : Option Addr} {xs : List Int} (h : Ints w B a n xs) (k : Int) : Fit (sizeAt xs k) := by
  unfold sizeAt; split
  · unfold Fit; omega
  · cases e : xs[k.toNat]? with
    | none => simp [Fit]
    | some s => exact h.fit e
end Go.Proofs.Ytpdhlnkdjcghpaa
