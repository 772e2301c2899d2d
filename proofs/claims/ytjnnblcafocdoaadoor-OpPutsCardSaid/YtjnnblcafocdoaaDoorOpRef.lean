/-
  The document's own answers for package op: may, num, read (almeryref19), met by contracts.
-/
import Derived.Test.YtjnnblcafocdoaaDoorOpRow
import Derived.Test.YtjnnblcafocdoaaDoorFresh
namespace Go.Proofs.YtjnnblcafocdoaaDoor
open Go.ChangeShapes Go.WideShapes Go.ChangeAt Go.RowKit

/-- It returns bytes: a slice of the caller's own, or nil; all memory that was there is as it was. -/
def BsEnd (xs : List Int) (w : World) (e : Ending) (w' : World) : Prop := ∃ a n c, e = .returned (.slice a n c) ∧ n ≤ c ∧ Bytes w' w'.heap.size a n xs ∧ Below w.heap.size w w'
theorem mayO_of {u : Ov} (hl : u.bs.length = u.bn) : mayO u.op = (decide (1 ≤ u.kind) && (decide (u.kind ≤ 7) && (decide ((u.bn : Int) ≤ 65535) && (decide (u.kind = 4) || decide ((u.bn : Int) = 0))))) := by
  unfold mayO Ov.op
  simp only [hl]
  congr 1
  congr 1
  congr 1
  · rw [decide_eq_decide]; omega
  · congr 1
    rw [decide_eq_decide]; omega
theorem refMay19_any (u : Ov) (w : World) (hl : u.bs.length = u.bn) :
    Calls Tryd.prog 17 #[.agg #[.int .i64 u.kind, .int .i64 u.h, .int .i64 u.a, .int .i64 u.b, .slice u.ba u.bn u.bc]] w (BB (mayO u.op) w) := by
  rw [mayO_of hl]
  clear hl
  obtain ⟨k, h, a, b, ba, n, c, bs⟩ := u
  dsimp only
  by_cases h1 : 1 ≤ k
  · have d1 : decide (1 ≤ k) = true := decide_eq_true h1
    by_cases h2 : k ≤ 7
    · have d2 : decide (k ≤ 7) = true := decide_eq_true h2
      by_cases h3 : (n : Int) ≤ 65535
      · have d3 : decide ((n : Int) ≤ 65535) = true := decide_eq_true h3
        have d3' : decide (n ≤ 65535) = true := decide_eq_true (by omega)
        by_cases h4 : k = 4
        · have d4 : decide (k = 4) = true := decide_eq_true h4
          subst h4
          rw [d1, d2, d3, d4]
          clear d1 d2 d4 h1 h2
          go_enter Tryd.func17, Tryd.ntmps17
          go_wp2
          go_ret
          exact ⟨rfl, below1 _ _⟩
        · have d4 : decide (k = 4) = false := decide_eq_false h4
          have e4 : (k == 4) = false := by simpa using h4
          rw [d1, d2, d3, d4]
          by_cases h5 : n = 0
          · subst h5
            go_enter Tryd.func17, Tryd.ntmps17
            go_wp2
            go_ret
            exact ⟨rfl, below1 _ _⟩
          · have d5 : decide ((n : Int) = 0) = false := decide_eq_false (by omega)
            have e5 : ((n : Int) == 0) = false := by simp; omega
            rw [d5]
            clear h5 h4
            go_enter Tryd.func17, Tryd.ntmps17
            go_wp2
            go_ret
            exact ⟨rfl, below1 _ _⟩
      · have d3 : decide ((n : Int) ≤ 65535) = false := decide_eq_false h3
        have d3' : decide (n ≤ 65535) = false := decide_eq_false (by omega)
        rw [d1, d2, d3]
        go_enter Tryd.func17, Tryd.ntmps17
        go_wp2
        go_ret
        exact ⟨rfl, below1 _ _⟩
    · have d2 : decide (k ≤ 7) = false := decide_eq_false h2
      rw [d1, d2]
      go_enter Tryd.func17, Tryd.ntmps17
      go_wp2
      go_ret
      exact ⟨rfl, below1 _ _⟩
  · have d1 : decide (1 ≤ k) = false := decide_eq_false h1
    rw [d1]
    go_enter Tryd.func17, Tryd.ntmps17
    go_wp2
    go_ret
    exact ⟨rfl, below1 _ _⟩

/-- How far 'num' has come: k bytes of the number. -/
theorem num_part (n : Int) {k : Nat} (hk : k < 8) : (numL n)[k]? = some (u64 n / 256 ^ k % 256) := bytesOf_get 8 _ k hk
theorem u64_in (n : Int) : 0 ≤ u64 n ∧ u64 n ≤ 18446744073709551615 := by unfold u64; omega
theorem numL_byt (n : Int) : Byt (numL n) := bytesOf_byt 8 _
set_option maxHeartbeats 1000000 in
theorem refNum_any (n : Int) (w : World) :
    Calls Tryd.prog 22 #[.int .i64 n] w (BsEnd (numL n) w) := by
  have hu : IntKind.u64.wrap n = u64 n := by unfold u64; rw [IntKind.wrap_u64]
  go_enter Tryd.func22, Tryd.ntmps22
  go_wp2
  go_loopw [3, 4, 5] (fun v x i wr => ∃ k : Nat, k ≤ 8 ∧ i = .int .i64 k ∧ x = .int .u64 (u64 n / 256 ^ k) ∧ OwnB wr w.heap.size v k ((numL n).take k) ∧ Below w.heap.size w wr) (fun _ _ i _ => 8 - (intOf i).toNat)
  case atStart => exact ⟨0, by omega, rfl, by simp, OwnB.nil _ _, Below.refl _ _⟩
  case round =>
    obtain ⟨k, hk, rfl, rfl, ho, hb⟩ := hrel
    by_cases hlt : k < 8
    · have dk : decide ((k : Int) < 8) = true := by simp; omega
      have hq : u64 n / 256 ^ (k + 1) = u64 n / 256 ^ k / 256 := by rw [Int.pow_succ, ← Int.ediv_ediv_of_nonneg]; exact Int.pow_nonneg (by omega)
      have hX0 : 0 ≤ u64 n / 256 ^ k := Int.ediv_nonneg (u64_in n).1 (Int.pow_nonneg (by omega))
      have hX1 : u64 n / 256 ^ k ≤ 18446744073709551615 := Int.le_trans (Int.ediv_le_self _ (u64_in n).1) (u64_in n).2
      have ht : (numL n).take (k + 1) = (numL n).take k ++ [u64 n / 256 ^ k % 256] := by rw [List.take_add_one, num_part n hlt]; rfl
      have HQ := Lib.hid hq
      have HT := Lib.hid ht
      generalize u64 n / 256 ^ k = X at HQ HT hX0 hX1 ⊢
      have hXm : IntKind.u64.wrap (X.tmod 256) = X % 256 := by rw [Int.tmod_eq_emod_of_nonneg hX0, IntKind.wrap_u64]; omega
      have hXb : IntKind.u8.wrap (X % 256) = X % 256 := by rw [IntKind.wrap_u8]; omega
      have hXd : IntKind.u64.wrap (X.tdiv 256) = X / 256 := by rw [Int.tdiv_eq_ediv_of_nonneg hX0, IntKind.wrap_u64]; omega
      obtain ⟨v', w', hr, ho', hb', _⟩ := app_bytes (c := 1) (ho.on (below1 wr (.cells #[.int .u8 (X % 256)] 5))) (one_byte wr (X % 256) (by omega)) (Nat.le_trans hb.size (by simp)) (by omega) 25
      have HO := Lib.hid ho'
      have HB := Lib.hid ((hb.alloc hb.size (.cells #[.int .u8 (X % 256)] 5)).trans hb')
      have HR := Lib.hid hr
      clear ho hb hq ht hr ho' hb'
      go_wp2_with (refine wpList_append_run rfl _ _ rfl rfl rfl rfl HR.out ?_)
      exact ⟨⟨k + 1, by omega, by simp, by rw [HQ.out], by rw [HT.out]; exact HO.out, HB.out⟩, by simp [intOf]; omega⟩
    · have dk : decide ((k : Int) < 8) = false := by simp; omega
      obtain rfl : k = 8 := by omega
      have ht : (numL n).take 8 = numL n := List.take_of_length_le (by rw [numL_len]; omega)
      rw [ht] at ho
      obtain ⟨a, c, rfl, hc, hx⟩ := ho.bytes (numL_byt n) (by omega)
      clear ho
      go_wp2
      go_ret
      exact ⟨a, 8, c, rfl, hc, hx, hb⟩

theorem wordOf_len {ys : List Int} (hb : Byt ys) (hl : ys.length ≤ 8) : 0 ≤ wordOf ys ∧ wordOf ys ≤ 18446744073709551615 := by
  have h := wordOf_fit hb
  have : (256 : Int) ^ ys.length ≤ 18446744073709551616 := by
    have h : ys.length = 0 ∨ ys.length = 1 ∨ ys.length = 2 ∨ ys.length = 3 ∨ ys.length = 4 ∨ ys.length = 5 ∨ ys.length = 6 ∨ ys.length = 7 ∨ ys.length = 8 := by omega
    rcases h with h | h | h | h | h | h | h | h | h <;> rw [h] <;> decide
  omega
theorem Byt.drop {xs : List Int} (h : Byt xs) (k : Nat) : Byt (xs.drop k) := fun x hx => h x (List.mem_of_mem_drop hx)
set_option maxHeartbeats 1000000 in
theorem refRead19_any (b o c : Nat) (xs : List Int) (B : Nat) (w : World) (hx : Bytes w B (some ⟨b, o, none⟩) 8 xs) :
    Calls Tryd.prog 21 #[.slice (some ⟨b, o, none⟩) 8 c] w (R1 (i64 (wordOf xs)) w) := by
  have HL := Lib.hid hx.len
  have HFT := Lib.hid hx.fit
  obtain ⟨b', o', e, hb, hcell⟩ := hx.head (by omega)
  injection e with e
  injection e with e1 e2
  subst e1 e2
  have HCL := Lib.hid hcell
  have hwi : IntKind.i64.wrap (wordOf xs) = i64 (wordOf xs) := by
    have := wordOf_len hx.fit (by rw [hx.len]; omega)
    unfold i64
    rw [IntKind.wrap_i64]
    split <;> omega
  clear hx hcell
  go_enter Tryd.func21, Tryd.ntmps21
  go_wp2
  go_loop [3, 4] (fun v i => ∃ k : Nat, k ≤ 8 ∧ i = .int .i64 ((k : Int) - 1) ∧ v = .int .u64 (wordOf (xs.drop k))) (fun _ i => (intOf i + 1).toNat)
  case atStart => exact ⟨8, by omega, rfl, by rw [List.drop_eq_nil_of_le (by rw [HL.out]; omega)]; rfl⟩
  case round =>
    obtain ⟨k, hk, rfl, rfl⟩ := hrel
    by_cases h0 : k = 0
    · subst h0
      have dk : decide ((0 : Int) ≤ ((0 : Nat) : Int) - 1) = false := by decide
      rw [List.drop_zero]
      generalize wordOf xs = V at *
      go_wp2
      go_ret
      exact ⟨by rw [← hwi]; rfl, rfl⟩
    · obtain ⟨j, rfl⟩ : ∃ j, k = j + 1 := ⟨k - 1, by omega⟩
      have hkj : ((j + 1 : Nat) : Int) - 1 = (j : Int) := by omega
      rw [hkj]
      have dk : decide ((0 : Int) ≤ (j : Int)) = true := by simp
      have hy : xs[j]? = some (xs[j]'(by rw [HL.out]; omega)) := List.getElem?_eq_getElem _
      generalize xs[j]'(by rw [HL.out]; omega) = y at hy
      have hyb := HFT.out.get hy
      have hcy := HCL.out j y hy
      have hV := wordOf_len (HFT.out.drop (j + 1)) (by rw [List.length_drop, HL.out]; omega)
      have hV2 := wordOf_len (HFT.out.drop j) (by rw [List.length_drop, HL.out]; omega)
      have hE := wordOf_drop hy
      generalize hV' : wordOf (xs.drop j) = V' at hE hV2
      generalize wordOf (xs.drop (j + 1)) = V at hE hV ⊢
      have hw1 : IntKind.u64.wrap (V * 256) = V * 256 := by rw [IntKind.wrap_u64]; omega
      have hw2 : IntKind.u64.wrap (V * 256 + y) = V' := by rw [IntKind.wrap_u64]; omega
      have hj8 : (j : Int) < 8 := by omega
      have HV' := Lib.hid hV'
      clear hy hV' hE hwi
      go_wp2
      exact ⟨⟨j, by omega, rfl, by rw [HV'.out]⟩, by simp [intOf]⟩
end Go.Proofs.YtjnnblcafocdoaaDoor
