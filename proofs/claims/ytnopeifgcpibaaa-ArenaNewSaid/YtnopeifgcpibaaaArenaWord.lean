/-
  Package arena: Load, Store: a word of eight bytes, the least one first.
-/
import Derived.Test.YtnopeifgcpibaaaArenaPart
namespace Go.Proofs.Ytnopeifgcpibaaa
open Go.ChangeShapes Go.WideShapes Go.ChangeAt Go.RowKit

section
variable {w : World} {p b : Nat} {m : Option Nat} {xs : List Int} {t l : Int}
theorem load_nil (at_ : Int) (w : World) :
    Calls Try.prog 21 #[.pointer none, .int .i64 at_] w fun e w' => e = .returned (.tuple #[.int .u64 0, .int .i64 1]) ∧ w = w' := by
  go_enter Try.func21, Try.ntmps21
  go_wp2_with fail
  refine (word_nil _ w).mono ?_
  rintro e w' ⟨rfl, rfl⟩
  go_wp2
  go_ret2
  exact ⟨rfl, rfl⟩
theorem load_bad (h : Ar w p b m xs t l) (at_ : Int) (ha : -9223372036854775808 ≤ at_ ∧ at_ ≤ 9223372036854775807) (hn : wordErr xs.length at_ ≠ 0) :
    Calls Try.prog 21 #[.pointer (some ⟨p, 0, none⟩), .int .i64 at_] w fun e w' => e = .returned (.tuple #[.int .u64 0, .int .i64 (wordErr xs.length at_)]) ∧ w = w' := by
  have HP := Lib.hid (word_bad h at_ ha hn)
  have hne : (wordErr xs.length at_ == 0) = false := by simpa using hn
  have hne2 : (wordErr xs.length at_ != 0) = true := by simpa using hn
  generalize wordErr xs.length at_ = q at HP hne hne2 ⊢
  clear hn ha
  go_enter Try.func21, Try.ntmps21
  go_wp2_with fail
  refine HP.out.mono ?_
  rintro e w' ⟨rfl, rfl⟩
  clear HP
  go_wp2
  go_ret2
  exact ⟨rfl, rfl⟩

theorem or_at (i : Nat) (P V y : Int) (hP : P = 2 ^ i) (h0 : 0 < P) (hm : P ≤ 72057594037927936) (v0 : 0 ≤ V) (v1 : V < P) (y0 : 0 ≤ y) (y1 : y ≤ 255) : bits .or .u64 V (IntKind.u64.wrap (y * P)) = V + P * y := by
  have g0 : 0 ≤ y * P := Int.mul_nonneg y0 (by omega)
  have g1 : y * P ≤ 255 * P := Int.mul_le_mul_of_nonneg_right y1 (by omega)
  have hw : IntKind.u64.wrap (y * P) = y * P := by rw [IntKind.wrap_u64]; omega
  have he : (2 : Int) ^ 64 = 18446744073709551616 := by decide
  have hx : y * P % 2 ^ i = 0 := by rw [← hP]; exact Int.mul_emod_left _ _
  have hj := bits_join .u64 64 (by decide) (fun n h0 h1 => by rw [he] at h1; rw [IntKind.wrap_u64]; omega) i (y * P) V g0 hx (by rw [he]; omega) v0 (by rw [← hP]; exact v1) (by rw [he]; omega)
  rw [hw, show bits .or .u64 V (y * P) = bits .or .u64 (y * P) V by simp only [bits, BitVec.or_comm], hj, Int.mul_comm]
  omega
/-- One byte more, by '<<' and '|'. -/
theorem or_word {V y : Int} {k : Nat} (hk : k < 8) (v0 : 0 ≤ V) (v1 : V < 256 ^ k) (y0 : 0 ≤ y) (y1 : y ≤ 255) : bits .or .u64 V (IntKind.u64.wrap (y * 2 ^ (8 * k))) = V + 256 ^ k * y := by
  have h : k = 0 ∨ k = 1 ∨ k = 2 ∨ k = 3 ∨ k = 4 ∨ k = 5 ∨ k = 6 ∨ k = 7 := by omega
  rcases h with rfl | rfl | rfl | rfl | rfl | rfl | rfl | rfl
  · exact or_at 0 1 V y rfl (by omega) (by omega) v0 v1 y0 y1
  · exact or_at 8 256 V y rfl (by omega) (by omega) v0 v1 y0 y1
  · exact or_at 16 65536 V y rfl (by omega) (by omega) v0 v1 y0 y1
  · exact or_at 24 16777216 V y rfl (by omega) (by omega) v0 v1 y0 y1
  · exact or_at 32 4294967296 V y rfl (by omega) (by omega) v0 v1 y0 y1
  · exact or_at 40 1099511627776 V y rfl (by omega) (by omega) v0 v1 y0 y1
  · exact or_at 48 281474976710656 V y rfl (by omega) (by omega) v0 v1 y0 y1
  · exact or_at 56 72057594037927936 V y rfl (by omega) (by omega) v0 v1 y0 y1
/-- One byte more of a word's. -/
theorem or_take {ys : List Int} {k : Nat} {y : Int} (hb : Byt ys) (h8 : ys.length = 8) (hy : ys[k]? = some y) : bits .or .u64 (wordOf (ys.take k)) (IntKind.u64.wrap (y * 2 ^ (8 * k))) = wordOf (ys.take (k + 1)) := by
  have hk : k < ys.length := (List.getElem?_eq_some_iff.1 hy).1
  have hf := wordOf_fit (hb.take k)
  have hl : (ys.take k).length = k := by rw [List.length_take]; omega
  rw [hl] at hf
  rw [wordOf_take hy]
  exact or_word (by omega) hf.1 hf.2 (hb.get hy).1 (hb.get hy).2

theorem load_ok (h : Ar w p b m xs t l) (at_ : Nat) (hn : at_ + 8 ≤ xs.length) (hm8 : at_ % 8 = 0) :
    Calls Try.prog 21 #[.pointer (some ⟨p, 0, none⟩), .int .i64 (at_ : Int)] w fun e w' => e = .returned (.tuple #[.int .u64 (wordOf (sub xs at_ 8)), .int .i64 0]) ∧ Ar w' p b m xs (more t 1) l ∧ But (Mine b m) w w' := by
  have hc := h.charge
  have HP := Lib.hid (word_ok h at_ hn hm8)
  have HN := Lib.hid hn
  have H := Lib.hid h
  clear hn h hm8
  go_enter Try.func21, Try.ntmps21
  go_wp2_with fail
  refine HP.out.mono ?_
  rintro e w' ⟨c, rfl, rfl, hoc⟩
  clear HP
  go_wp2_with fail
  refine (charge_m m t l 1 _ H.out.mo).mono ?_
  rintro e w1 ⟨rfl, hm, hb⟩
  have A1 := Lib.hid (H.out.charged hm hb)
  have B1 := Lib.hid hb
  have Y1 := Lib.hid (A1.out.row.bytes HN.out (o := at_) (fun _ => rfl))
  clear hm hb hc
  go_wp2
  go_loopw [8, 27] (fun v i wr => ∃ k : Nat, k ≤ 8 ∧ i = .int .i64 k ∧ v = .int .u64 (wordOf ((sub xs at_ 8).take k)) ∧ wr = w1) (fun _ i _ => 8 - (intOf i).toNat)
  case atStart => exact ⟨0, by omega, rfl, rfl, rfl⟩
  case round =>
    obtain ⟨k, hk, rfl, rfl, rfl⟩ := hrel
    by_cases hlt : k < 8
    · have dk : decide ((k : Int) < 8) = true := by simp; omega
      obtain ⟨y, hy, y0, y1⟩ := Y1.out.at_ hlt
      obtain ⟨b', o', e, _, hcell⟩ := Y1.out.head (by omega)
      injection e with e
      injection e with e1 e2
      subst e1 e2
      have hcl := hcell k y hy
      have HY := Lib.hid hy
      clear hcell hy
      have HE := Lib.hid (or_take Y1.out.fit Y1.out.len HY.out)
      generalize wordOf ((sub xs at_ 8).take k) = V at HE ⊢
      go_wp2
      exact ⟨⟨k + 1, by omega, by simp, by rw [HE.out], trivial⟩, by simp [intOf]; omega⟩
    · have dk : decide ((k : Int) < 8) = false := by simp; omega
      obtain rfl : k = 8 := by omega
      have HE : Hid (wordOf ((sub xs at_ 8).take 8) = wordOf (sub xs at_ 8)) := Lib.hid (by rw [List.take_of_length_le (by rw [Y1.out.len]; omega)])
      generalize wordOf ((sub xs at_ 8).take 8) = V at HE ⊢
      go_wp2
      go_ret2
      exact ⟨by rw [HE.out]; rfl, A1.out, B1.out.mineC b⟩

theorem store_nil (at_ v : Int) (w : World) :
    Calls Try.prog 23 #[.pointer none, .int .i64 at_, .int .u64 v] w fun e w' => e = .returned (.int .i64 1) ∧ w = w' := by
  go_enter Try.func23, Try.ntmps23
  go_wp2_with fail
  refine (word_nil _ w).mono ?_
  rintro e w' ⟨rfl, rfl⟩
  go_wp2
  go_ret
  exact ⟨rfl, rfl⟩
theorem store_bad (h : Ar w p b m xs t l) (at_ v : Int) (ha : -9223372036854775808 ≤ at_ ∧ at_ ≤ 9223372036854775807) (hn : wordErr xs.length at_ ≠ 0) :
    Calls Try.prog 23 #[.pointer (some ⟨p, 0, none⟩), .int .i64 at_, .int .u64 v] w fun e w' => e = .returned (.int .i64 (wordErr xs.length at_)) ∧ w = w' := by
  have HP := Lib.hid (word_bad h at_ ha hn)
  have hne : (wordErr xs.length at_ == 0) = false := by simpa using hn
  have hne2 : (wordErr xs.length at_ != 0) = true := by simpa using hn
  generalize wordErr xs.length at_ = q at HP hne hne2 ⊢
  clear hn ha
  go_enter Try.func23, Try.ntmps23
  go_wp2_with fail
  refine HP.out.mono ?_
  rintro e w' ⟨rfl, rfl⟩
  clear HP
  go_wp2
  go_ret
  exact ⟨rfl, rfl⟩

/-- Eight bytes 0, as a variable lays them. -/
theorem eight_row (w : World) (t : TypeId) : Row (w.alloc (.cells #[.int .u8 0, .int .u8 0, .int .u8 0, .int .u8 0, .int .u8 0, .int .u8 0, .int .u8 0, .int .u8 0] t)) w.heap.size (List.replicate 8 0) := by
  have hh : (w.alloc (.cells #[.int .u8 0, .int .u8 0, .int .u8 0, .int .u8 0, .int .u8 0, .int .u8 0, .int .u8 0, .int .u8 0] t)).heap[w.heap.size]? = some (.cells #[.int .u8 0, .int .u8 0, .int .u8 0, .int .u8 0, .int .u8 0, .int .u8 0, .int .u8 0, .int .u8 0] t) := by simp only [World.alloc, Array.getElem?_push, if_true]
  refine ⟨fun k s hs => ?_, fun k hk => ?_, Byt.replicate (by omega) (by omega) 8, by simp, by simp⟩
  · obtain ⟨hk, e⟩ := List.getElem?_eq_some_iff.1 hs
    rw [List.length_replicate] at hk
    rw [List.getElem_replicate] at e
    subst e
    rw [World.cell?, hh]
    have h : k = 0 ∨ k = 1 ∨ k = 2 ∨ k = 3 ∨ k = 4 ∨ k = 5 ∨ k = 6 ∨ k = 7 := by omega
    rcases h with rfl | rfl | rfl | rfl | rfl | rfl | rfl | rfl <;> rfl
  · rw [World.frozen?, hh]
    simp

theorem pow8 {k : Nat} (hk : k < 8) : (2 : Int) ^ (8 * k) = 256 ^ k := by
  have h : k = 0 ∨ k = 1 ∨ k = 2 ∨ k = 3 ∨ k = 4 ∨ k = 5 ∨ k = 6 ∨ k = 7 := by omega
  rcases h with rfl | rfl | rfl | rfl | rfl | rfl | rfl | rfl <;> rfl
/-- The first k bytes of v stand in the array. -/
structure Laid8 (v : Int) (g : Nat) (w : World) (k : Nat) (w' : World) : Prop where
  row : Row w' g (splice (List.replicate 8 0) 0 ((bytesOf 8 v).take k))
  but : But (· = g) w w'
theorem Laid8.start (v : Int) (w : World) (t : TypeId) : Laid8 v w.heap.size w 0 (w.alloc (.cells #[.int .u8 0, .int .u8 0, .int .u8 0, .int .u8 0, .int .u8 0, .int .u8 0, .int .u8 0, .int .u8 0] t)) :=
  ⟨by rw [List.take_zero, splice_nil _ _ (by omega)]; exact eight_row w t, (But.refl _ w).alloc _⟩
theorem Laid8.length {v : Int} {g : Nat} {w w' : World} {k : Nat} (_ : Laid8 v g w k w') : (splice (List.replicate 8 0) 0 ((bytesOf 8 v).take k)).length = 8 := by
  rw [length_splice _ _ _ (by rw [List.length_take, length_bytesOf, List.length_replicate]; omega), List.length_replicate]
theorem Laid8.next {v : Int} {g : Nat} {w w' : World} {k : Nat} (h : Laid8 v g w k w') (hk : k < 8) : Laid8 v g w (k + 1) (w'.setCell ⟨g, k, none⟩ (.int .u8 (v / 256 ^ k % 256))) := by
  refine ⟨?_, h.but.setCell (p := ⟨g, k, none⟩) (fun _ => rfl) _⟩
  have e := splice_set (L := List.replicate 8 0) (ys := bytesOf 8 v) (o := 0) (k := k) (by rw [length_bytesOf, List.length_replicate]; omega) (bytesOf_get 8 v k hk)
  rw [Nat.zero_add] at e
  rw [← e]
  exact h.row.set (by rw [h.length]; exact hk) (by omega) (by omega)
theorem Laid8.whole {v : Int} {g : Nat} {w w' : World} (h : Laid8 v g w 8 w') : Row w' g (bytesOf 8 v) := by
  have := h.row
  rwa [List.take_of_length_le (by rw [length_bytesOf]; omega), splice_whole (by rw [length_bytesOf, List.length_replicate])] at this

theorem store_ok (h : Ar w p b m xs t l) (at_ : Nat) (v : Int) (hn : at_ + 8 ≤ xs.length) (hm8 : at_ % 8 = 0) (_v0 : 0 ≤ v) (_v1 : v ≤ 18446744073709551615) :
    Calls Try.prog 23 #[.pointer (some ⟨p, 0, none⟩), .int .i64 (at_ : Int), .int .u64 v] w fun e w' => e = .returned (.int .i64 0) ∧ Ar w' p b m (splice xs at_ (bytesOf 8 v)) (more t 1) l ∧ But (Mine b m) w w' := by
  have hc := h.charge
  have HP := Lib.hid (word_ok h at_ hn hm8)
  have HN := Lib.hid hn
  have H := Lib.hid h
  clear hn h hm8
  go_enter Try.func23, Try.ntmps23
  go_wp2_with fail
  refine HP.out.mono ?_
  rintro e w' ⟨c, rfl, rfl, hoc⟩
  clear HP
  go_wp2_with fail
  refine (charge_m m t l 1 _ H.out.mo).mono ?_
  rintro e w1 ⟨rfl, hm, hb⟩
  have A1 := Lib.hid (H.out.charged hm hb)
  have B1 := Lib.hid hb
  clear hm hb hc
  go_wp2
  go_loopw [25] (fun i wr => ∃ k : Nat, k ≤ 8 ∧ i = .int .i64 k ∧ Laid8 v w1.heap.size w1 k wr) (fun i _ => 8 - (intOf i).toNat)
  case atStart => exact ⟨0, by omega, rfl, Laid8.start v w1 _⟩
  case round =>
    obtain ⟨k, hk, rfl, hr⟩ := hrel
    by_cases hlt : k < 8
    · have dk : decide ((k : Int) < 8) = true := by simp; omega
      have hcell := hr.row.cell k _ (List.getElem?_eq_getElem (by rw [hr.length]; exact hlt))
      have hfree := hr.row.free k (by rw [hr.length]; exact hlt)
      generalize (splice (List.replicate 8 0) 0 ((bytesOf 8 v).take k))[k]'(by rw [hr.length]; exact hlt) = s at hcell
      have HR := Lib.hid (hr.next hlt)
      clear hr
      go_wp2
      exact ⟨⟨k + 1, by omega, by simp, by rw [pow8 hlt]; exact HR.out⟩, by simp [intOf]; omega⟩
    · have dk : decide ((k : Int) < 8) = false := by simp; omega
      obtain rfl : k = 8 := by omega
      have HR := Lib.hid hr.whole
      have HB := Lib.hid hr.but
      clear hr
      have A2 := Lib.hid (A1.out.but HB.out (fun e => by have := A1.out.size; omega) (fun e => by have := A1.out.row.size; omega) (fun g e q => by have := (A1.out.mo g e).size; omega))
      obtain ⟨w3, hrun, R3, b3⟩ := copy_run A2.out.row (at_ := at_) (o := at_) (dLen := 8) (dCap := c) (sCap := 8) (HR.out.bytes (at_ := 0) (o := 0) (k := 8) (by rw [length_bytesOf]; omega) (fun _ => rfl)) (k := 8) rfl HN.out (fun _ => rfl)
      have hsub : sub (bytesOf 8 v) 0 8 = bytesOf 8 v := by have := sub_all (bytesOf 8 v); rwa [length_bytesOf] at this
      rw [hsub, List.take_of_length_le (by rw [length_bytesOf]; omega)] at R3
      have R4 := Lib.hid R3
      have B4 := Lib.hid b3
      clear R3 b3 hsub
      go_wp2
      go_ret
      exact ⟨rfl, A2.out.laid (length_splice _ _ _ (by rw [length_bytesOf]; exact HN.out)) R4.out B4.out, ((B1.out.mineC b).then HB.out (fun i hi e => by have := B1.out.size; omega)).trans (B4.out.mineB m)⟩
end
end Go.Proofs.Ytnopeifgcpibaaa
