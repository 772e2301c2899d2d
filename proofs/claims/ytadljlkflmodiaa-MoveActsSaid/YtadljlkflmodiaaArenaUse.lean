/-
  Package arena: Read, Write, Copy: what is told, or laid, and charged; or what is wrong, and then nothing turns.
-/
import Derived.Test.YtadljlkflmodiaaArenaPart
namespace Go.Proofs.Ytadljlkflmodiaa
open Go.ChangeShapes Go.WideShapes Go.ChangeAt Go.RowKit

section
variable {w : World} {p b : Nat} {m : Option Nat} {xs : List Int} {t l : Int}

theorem read_nil (at_ n : Int) (w : World) :
    Calls Try.prog 21 #[.pointer none, .int .i64 at_, .int .i64 n] w fun e w' => e = .returned (.tuple #[.slice none 0 0, .int .i64 1]) ∧ w = w' := by
  go_enter Try.func21, Try.ntmps21
  go_wp2_with fail
  refine (part_nil _ _ w).mono ?_
  rintro e w' ⟨rfl, rfl⟩
  go_wp2
  go_ret2
  exact ⟨rfl, rfl⟩
theorem read_bad (h : Ar w p b m xs t l) (at_ n : Int) (ha : -9223372036854775808 ≤ at_ ∧ at_ ≤ 9223372036854775807) (hn : ¬ thereB xs.length at_ n) :
    Calls Try.prog 21 #[.pointer (some ⟨p, 0, none⟩), .int .i64 at_, .int .i64 n] w fun e w' => e = .returned (.tuple #[.slice none 0 0, .int .i64 8]) ∧ w = w' := by
  have HP := Lib.hid (part_bad h at_ n ha hn)
  clear hn ha
  go_enter Try.func21, Try.ntmps21
  go_wp2_with fail
  refine HP.out.mono ?_
  rintro e w' ⟨rfl, rfl⟩
  go_wp2
  go_ret2
  exact ⟨rfl, rfl⟩
theorem read_ok (h : Ar w p b m xs t l) (at_ n : Nat) (hn : at_ + n ≤ xs.length) :
    Calls Try.prog 21 #[.pointer (some ⟨p, 0, none⟩), .int .i64 (at_ : Int), .int .i64 (n : Int)] w fun e w' => ∃ g, e = .returned (.tuple #[.slice (some ⟨g, 0, none⟩) n n, .int .i64 0]) ∧ Row w' g (sub xs at_ n) ∧ Ar w' p b m xs (more t n) l ∧ But (Mine b m) w w' ∧ w.heap.size ≤ g := by
  have hmax := h.max
  have hmk : ∀ v, (Instr.makeSlice 22 (.int .i64 (n : Int)) (.int .i64 (n : Int))).run Try.prog v = .ok (.slice (some ⟨v.heap.size, 0, none⟩) n n) (v.alloc (zeros n)) := make_run n (by omega)
  have hc := h.charge
  have HP := Lib.hid (part_ok h at_ n hn)
  have HN := Lib.hid hn
  have H := Lib.hid h
  have HM := Lib.hid hmax
  clear hn h hmax
  go_enter Try.func21, Try.ntmps21
  go_wp2_with fail
  refine HP.out.mono ?_
  rintro e w' ⟨o, c, rfl, rfl, ho, hoc⟩
  have HO := Lib.hid ho
  clear ho hoc HP
  go_wp2_with fail
  refine (charge_m m t l n _ H.out.mo).mono ?_
  rintro e w1 ⟨rfl, hm, hb⟩
  have A1 := Lib.hid (H.out.charged hm hb)
  have B1 := Lib.hid hb
  have A2 := Lib.hid (A1.out.below (below1 w1 (zeros n)))
  obtain ⟨w2, hrun, R2, b2⟩ := copy_run (zeros_row w1 n (by have := HM.out; have := HN.out; omega)) (at_ := 0) (o := 0) (dLen := n) (dCap := n) (sCap := c) (A2.out.row.bytes HN.out HO.out) (k := n) (by simp) (by rw [List.length_replicate]; omega) (fun _ => rfl)
  rw [List.take_of_length_le (by rw [length_sub _ _ _ HN.out]; omega), splice_whole (by rw [length_sub _ _ _ HN.out, List.length_replicate])] at R2
  have R3 := Lib.hid R2
  have B3 := Lib.hid b2
  clear hm hb R2 b2 hc
  go_wp2
  go_ret2
  have hs := B1.out.size
  have hA := A1.out
  refine ⟨_, rfl, R3.out, A2.out.but B3.out (fun e => ?_) (fun e => ?_) (fun g e q => ?_), (((B1.out.mineC b).alloc _).then B3.out (fun i hi e => by subst e; omega)), by omega⟩
  · have := hA.size; omega
  · have := hA.row.size; omega
  · have := (hA.mo g e).size; omega

theorem write_nil (at_ : Int) (a : Option Addr) (n c : Nat) (w : World) (_hn : n ≤ 9223372036854775807) :
    Calls Try.prog 12 #[.pointer none, .int .i64 at_, .slice a n c] w fun e w' => e = .returned (.int .i64 1) ∧ w = w' := by
  go_enter Try.func12, Try.ntmps12
  go_wp2_with fail
  refine (part_nil _ _ w).mono ?_
  rintro e w' ⟨rfl, rfl⟩
  go_wp2
  go_ret
  exact ⟨rfl, rfl⟩
theorem write_bad (h : Ar w p b m xs t l) (at_ : Int) (a : Option Addr) (n c : Nat) (ha : -9223372036854775808 ≤ at_ ∧ at_ ≤ 9223372036854775807) (_hl : n ≤ 9223372036854775807) (hn : ¬ thereB xs.length at_ n) :
    Calls Try.prog 12 #[.pointer (some ⟨p, 0, none⟩), .int .i64 at_, .slice a n c] w fun e w' => e = .returned (.int .i64 8) ∧ w = w' := by
  have HP := Lib.hid (part_bad h at_ n ha hn)
  clear hn ha
  go_enter Try.func12, Try.ntmps12
  go_wp2_with fail
  refine HP.out.mono ?_
  rintro e w' ⟨rfl, rfl⟩
  go_wp2
  go_ret
  exact ⟨rfl, rfl⟩
theorem write_ok (h : Ar w p b m xs t l) (at_ : Nat) (a : Option Addr) (n c B : Nat) (ys : List Int) (hy : ∀ w', But (fun i => m = some i) w w' → Bytes w' B a n ys) (hn : at_ + n ≤ xs.length) :
    Calls Try.prog 12 #[.pointer (some ⟨p, 0, none⟩), .int .i64 (at_ : Int), .slice a n c] w fun e w' => e = .returned (.int .i64 0) ∧ Ar w' p b m (splice xs at_ ys) (more t n) l ∧ But (Mine b m) w w' := by
  have hl := (hy w (But.refl _ _)).max
  have hc := h.charge
  have HP := Lib.hid (part_ok h at_ n hn)
  have HN := Lib.hid hn
  have H := Lib.hid h
  have HY := Lib.hid hy
  clear hn h hy
  go_enter Try.func12, Try.ntmps12
  go_wp2_with fail
  refine HP.out.mono ?_
  rintro e w' ⟨o, c2, rfl, rfl, ho, hoc⟩
  have HO := Lib.hid ho
  clear ho hoc HP
  go_wp2_with fail
  refine (charge_m m t l n _ H.out.mo).mono ?_
  rintro e w1 ⟨rfl, hm, hb⟩
  have A1 := Lib.hid (H.out.charged hm hb)
  have B1 := Lib.hid hb
  have Y1 := Lib.hid (HY.out w1 hb)
  obtain ⟨w2, hrun, R2, b2⟩ := copy_run A1.out.row (at_ := at_) (o := o) (dLen := n) (dCap := c2) (sCap := c) Y1.out (k := n) (by simp) HN.out HO.out
  rw [List.take_of_length_le (by rw [Y1.out.len]; omega)] at R2
  have R3 := Lib.hid R2
  have B3 := Lib.hid b2
  clear hm hb R2 b2 hc HY
  go_wp2
  go_ret
  exact ⟨rfl, A1.out.laid (length_splice _ _ _ (by rw [Y1.out.len]; exact HN.out)) R3.out B3.out, (B1.out.mineC b).trans (B3.out.mineB m)⟩

theorem copy_nil (to from_ n : Int) (w : World) :
    Calls Try.prog 32 #[.pointer none, .int .i64 to, .int .i64 from_, .int .i64 n] w fun e w' => e = .returned (.int .i64 1) ∧ w = w' := by
  go_enter Try.func32, Try.ntmps32
  go_wp2_with fail
  refine (part_nil _ _ w).mono ?_
  rintro e w' ⟨rfl, rfl⟩
  go_wp2
  go_ret
  exact ⟨rfl, rfl⟩
theorem copy_bad (h : Ar w p b m xs t l) (to from_ n : Int) (ht : -9223372036854775808 ≤ to ∧ to ≤ 9223372036854775807) (hf : -9223372036854775808 ≤ from_ ∧ from_ ≤ 9223372036854775807) (hn : ¬ (thereB xs.length from_ n ∧ thereB xs.length to n)) :
    Calls Try.prog 32 #[.pointer (some ⟨p, 0, none⟩), .int .i64 to, .int .i64 from_, .int .i64 n] w fun e w' => e = .returned (.int .i64 8) ∧ w = w' := by
  by_cases h1 : thereB xs.length from_ n
  · have HQ := Lib.hid (part_bad h to n ht (fun q => hn ⟨h1, q⟩))
    obtain ⟨a, rfl⟩ : ∃ a : Nat, from_ = (a : Int) := ⟨from_.toNat, by have := h1.1; omega⟩
    obtain ⟨k, rfl⟩ : ∃ k : Nat, n = (k : Int) := ⟨n.toNat, by have := h1.2.1; omega⟩
    have HP := Lib.hid (part_ok h a k (by have := h1.2.2; omega))
    clear hn ht hf h1
    go_enter Try.func32, Try.ntmps32
    go_wp2_with fail
    refine HP.out.mono ?_
    rintro e w' ⟨o, c2, rfl, rfl, ho, hoc⟩
    clear ho hoc
    go_wp2_with fail
    refine HQ.out.mono ?_
    rintro e w' ⟨rfl, rfl⟩
    go_wp2
    go_ret
    exact ⟨rfl, rfl⟩
  · have HP := Lib.hid (part_bad h from_ n hf h1)
    clear hn ht hf h1
    go_enter Try.func32, Try.ntmps32
    go_wp2_with fail
    refine HP.out.mono ?_
    rintro e w' ⟨rfl, rfl⟩
    go_wp2
    go_ret
    exact ⟨rfl, rfl⟩
theorem copy_ok (h : Ar w p b m xs t l) (to from_ n : Nat) (ht : to + n ≤ xs.length) (hf : from_ + n ≤ xs.length) :
    Calls Try.prog 32 #[.pointer (some ⟨p, 0, none⟩), .int .i64 (to : Int), .int .i64 (from_ : Int), .int .i64 (n : Int)] w fun e w' => e = .returned (.int .i64 0) ∧ Ar w' p b m (splice xs to (sub xs from_ n)) (more t n) l ∧ But (Mine b m) w w' := by
  have hc := h.charge
  have HP := Lib.hid (part_ok h from_ n hf)
  have HQ := Lib.hid (part_ok h to n ht)
  have HT := Lib.hid ht
  have HF := Lib.hid hf
  have H := Lib.hid h
  clear ht hf h
  go_enter Try.func32, Try.ntmps32
  go_wp2_with fail
  refine HP.out.mono ?_
  rintro e w' ⟨o, c, rfl, rfl, ho, hoc⟩
  have HO := Lib.hid ho
  clear ho hoc HP
  go_wp2_with fail
  refine HQ.out.mono ?_
  rintro e w' ⟨o2, c2, rfl, rfl, ho, hoc⟩
  have HO2 := Lib.hid ho
  clear ho hoc HQ
  go_wp2_with fail
  refine (charge_m m t l n _ H.out.mo).mono ?_
  rintro e w1 ⟨rfl, hm, hb⟩
  have A1 := Lib.hid (H.out.charged hm hb)
  have B1 := Lib.hid hb
  obtain ⟨w2, hrun, R2, b2⟩ := copy_run A1.out.row (at_ := to) (o := o2) (dLen := n) (dCap := c2) (sCap := c) (A1.out.row.bytes HF.out HO.out) (k := n) (by simp) HT.out HO2.out
  rw [List.take_of_length_le (by rw [length_sub _ _ _ HF.out]; omega)] at R2
  have R3 := Lib.hid R2
  have B3 := Lib.hid b2
  clear hm hb R2 b2 hc
  go_wp2
  go_ret
  exact ⟨rfl, A1.out.laid (length_splice _ _ _ (by rw [length_sub _ _ _ HF.out]; exact HT.out)) R3.out B3.out, (B1.out.mineC b).trans (B3.out.mineB m)⟩
end
end Go.Proofs.Ytadljlkflmodiaa
