/-
  Words of bytes by '<<' and '|', a byte at a time; the bytes of a number by '>>'. No statement about a Go function.
-/
import Derived.Test.YtjnnblcafocdoaaDoorOpNum
import Derived.Test.YtjnnblcafocdoaaDoorFresh
import Derived.Laws.BitsLemmas
namespace Go.Proofs.YtjnnblcafocdoaaDoor
open Go.ChangeShapes Go.WideShapes Go.ChangeAt Go.RowKit

theorem or_at (i : Nat) (P V y : Int) (hP : P = 2 ^ i) (h0 : 0 < P) (hm : P ≤ 72057594037927936) (v0 : 0 ≤ V) (v1 : V < P) (y0 : 0 ≤ y) (y1 : y ≤ 255) : bits .or .u64 V (IntKind.u64.wrap (y * P)) = V + P * y := by
  have g0 : 0 ≤ y * P := Int.mul_nonneg y0 (by omega)
  have g1 : y * P ≤ 255 * P := Int.mul_le_mul_of_nonneg_right y1 (by omega)
  have hw : IntKind.u64.wrap (y * P) = y * P := by rw [IntKind.wrap_u64]; omega
  have he : (2 : Int) ^ 64 = 18446744073709551616 := by decide
  have hx : y * P % 2 ^ i = 0 := by rw [← hP]; exact Int.mul_emod_left _ _
  have hj := bits_join .u64 64 (by decide) (fun n h0 h1 => by rw [he] at h1; rw [IntKind.wrap_u64]; omega) i (y * P) V g0 hx (by rw [he]; omega) v0 (by rw [← hP]; exact v1) (by rw [he]; omega)
  rw [hw, show bits .or .u64 V (y * P) = bits .or .u64 (y * P) V by simp only [bits, BitVec.or_comm], hj, Int.mul_comm]
  omega
/-- One byte more, by '<<' and '|'. -/
theorem or_word {V y : Int} {k : Nat} (hk : k < 8) (v0 : 0 ≤ V) (v1 : V < 256 ^ k) (y0 : 0 ≤ y) (y1 : y ≤ 255) : bits .or .u64 V (IntKind.u64.wrap (y * 2 ^ (8 * k))) = V + 256 ^ k * y := by
  have h : k = 0 ∨ k = 1 ∨ k = 2 ∨ k = 3 ∨ k = 4 ∨ k = 5 ∨ k = 6 ∨ k = 7 := by omega
  rcases h with rfl | rfl | rfl | rfl | rfl | rfl | rfl | rfl
  · exact or_at 0 1 V y rfl (by omega) (by omega) v0 v1 y0 y1
  · exact or_at 8 256 V y rfl (by omega) (by omega) v0 v1 y0 y1
  · exact or_at 16 65536 V y rfl (by omega) (by omega) v0 v1 y0 y1
  · exact or_at 24 16777216 V y rfl (by omega) (by omega) v0 v1 y0 y1
  · exact or_at 32 4294967296 V y rfl (by omega) (by omega) v0 v1 y0 y1
  · exact or_at 40 1099511627776 V y rfl (by omega) (by omega) v0 v1 y0 y1
  · exact or_at 48 281474976710656 V y rfl (by omega) (by omega) v0 v1 y0 y1
  · exact or_at 56 72057594037927936 V y rfl (by omega) (by omega) v0 v1 y0 y1
/-- One byte more of a word's. -/
theorem or_take {ys : List Int} {k : Nat} {y : Int} (hb : Byt ys) (h8 : ys.length ≤ 8) (hy : ys[k]? = some y) : bits .or .u64 (wordOf (ys.take k)) (IntKind.u64.wrap (y * 2 ^ (8 * k))) = wordOf (ys.take (k + 1)) := by
  have hk : k < ys.length := (List.getElem?_eq_some_iff.1 hy).1
  have hf := wordOf_fit (hb.take k)
  have hl : (ys.take k).length = k := by rw [List.length_take]; omega
  rw [hl] at hf
  rw [wordOf_take hy]
  exact or_word (by omega) hf.1 hf.2 (hb.get hy).1 (hb.get hy).2
/-- A number's bytes are those of the number 2^64 above it. -/
theorem bytesOf_u64 (n : Int) : ∀ k, k ≤ 8 → bytesOf k (u64 n) = bytesOf k n := by
  intro k hk
  apply List.ext_getElem?
  intro i
  by_cases hi : i < k
  · rw [bytesOf_get k _ i hi, bytesOf_get k _ i hi]
    have h : i = 0 ∨ i = 1 ∨ i = 2 ∨ i = 3 ∨ i = 4 ∨ i = 5 ∨ i = 6 ∨ i = 7 := by omega
    unfold u64
    congr 1
    rcases h with rfl | rfl | rfl | rfl | rfl | rfl | rfl | rfl <;> omega
  · rw [List.getElem?_eq_none (by rw [length_bytesOf]; omega), List.getElem?_eq_none (by rw [length_bytesOf]; omega)]
theorem numL_eq (n : Int) : bytesOf 8 n = numL n := (bytesOf_u64 n 8 (by omega)).symm
/-- What is ahead of an operation's Bytes, as far as its first numbers go. -/
def ahead19 (k h a b m : Int) : Nat → List Int
  | 0 => []
  | 1 => bytesOf 1 k
  | 2 => bytesOf 1 k ++ bytesOf 8 h
  | 3 => bytesOf 1 k ++ bytesOf 8 h ++ bytesOf 8 a
  | 4 => bytesOf 1 k ++ bytesOf 8 h ++ bytesOf 8 a ++ bytesOf 8 b
  | _ => bytesOf 1 k ++ bytesOf 8 h ++ bytesOf 8 a ++ bytesOf 8 b ++ bytesOf 2 m
theorem ahead19_all (o : Opn) (h : o.bs.length ≤ 65535) : ahead19 o.kind o.h o.a o.b (o.bs.length : Nat) 5 ++ o.bs = oneL o := by
  have e1 : bytesOf 1 o.kind = [o.kind % 256] := rfl
  have e2 : bytesOf 2 ((o.bs.length : Nat) : Int) = [((o.bs.length : Nat) : Int) % 256, ((o.bs.length : Nat) : Int) / 256 % 256] := rfl
  simp only [ahead19, numL_eq, oneL, e1, e2, List.append_assoc, List.cons_append, List.nil_append]
  rw [show ((o.bs.length : Nat) : Int) / 256 % 256 = ((o.bs.length : Nat) : Int) / 256 by omega]
/-- Whether an operation may have these numbers. -/
def mayN (k m : Int) : Bool := decide (1 ≤ k) && (decide (k ≤ 7) && (decide (m = 0) || (decide (k = 4) && decide (m ≤ 65535))))
theorem mayN_op (o : Opn) : mayN o.kind (o.bs.length : Nat) = mayO o := by
  unfold mayN mayO
  rw [Bool.eq_iff_iff]
  simp only [Bool.and_eq_true, Bool.or_eq_true, decide_eq_true_eq]
  omega
end Go.Proofs.YtjnnblcafocdoaaDoor
