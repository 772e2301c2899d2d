/-
  Package op's own helpers, met by contracts: numbers.may, lay, number, cut.
-/
import Derived.Test.YtjnnblcafocdoaaDoorOpWord
import Derived.Test.YtjnnblcafocdoaaDoorOpGrew
import Derived.Test.YtjnnblcafocdoaaDoorBytesCut3
namespace Go.Proofs.YtjnnblcafocdoaaDoor
open Go.ChangeShapes Go.WideShapes Go.ChangeAt Go.RowKit

theorem may19_any (k h a b m : Int) (w : World) : Calls Tryd.prog 15 #[.agg #[.int .i64 k, .int .i64 h, .int .i64 a, .int .i64 b, .int .i64 m]] w (BB (mayN k m) w) := by
  unfold mayN
  by_cases h1 : k < 1
  · have d1 : decide (k < 1) = true := decide_eq_true h1
    have d1' : decide (1 ≤ k) = false := decide_eq_false (by omega)
    rw [d1']
    clear h1 d1'
    go_enter Tryd.func15, Tryd.ntmps15
    go_wp2
    go_ret
    exact ⟨rfl, below1 _ _⟩
  · have d1 : decide (k < 1) = false := decide_eq_false h1
    have d1' : decide (1 ≤ k) = true := decide_eq_true (by omega)
    by_cases h2 : 7 < k
    · have d2 : decide (7 < k) = true := decide_eq_true h2
      have d2' : decide (k ≤ 7) = false := decide_eq_false (by omega)
      rw [d1', d2']
      clear h1 d1' d2' h2
      go_enter Tryd.func15, Tryd.ntmps15
      go_wp2
      go_ret
      exact ⟨rfl, below1 _ _⟩
    · have d2 : decide (7 < k) = false := decide_eq_false h2
      have d2' : decide (k ≤ 7) = true := decide_eq_true (by omega)
      rw [d1', d2']
      clear h1 d1' d2' h2
      by_cases h3 : m = 0
      · subst h3
        go_enter Tryd.func15, Tryd.ntmps15
        go_wp2
        go_ret
        exact ⟨rfl, below1 _ _⟩
      · have d3 : (m == 0) = false := by simpa using h3
        have d3' : decide (m = 0) = false := decide_eq_false h3
        rw [d3']
        clear h3 d3'
        by_cases h4 : k = 4
        · subst h4
          by_cases h5 : m ≤ 65535
          · have d5 : decide (m ≤ 65535) = true := decide_eq_true h5
            rw [d5]
            clear h5
            go_enter Tryd.func15, Tryd.ntmps15
            go_wp2
            go_ret
            exact ⟨rfl, below1 _ _⟩
          · have d5 : decide (m ≤ 65535) = false := decide_eq_false h5
            rw [d5]
            clear h5
            go_enter Tryd.func15, Tryd.ntmps15
            go_wp2
            go_ret
            exact ⟨rfl, below1 _ _⟩
        · have d4 : (k == 4) = false := by simpa using h4
          have d4' : decide (k = 4) = false := decide_eq_false h4
          rw [d4']
          clear h4 d4'
          go_enter Tryd.func15, Tryd.ntmps15
          go_wp2
          go_ret
          exact ⟨rfl, below1 _ _⟩

/-- A row of the call's own comes back grown by these bytes. -/
def LayEnd (base m : Nat) (xs : List Int) (w : World) (v : Value) (e : Ending) (w' : World) : Prop := ∃ v', e = .returned v' ∧ OwnB w' base v' m xs ∧ Grew w w' v v'
set_option maxHeartbeats 1000000 in
theorem lay19_any (v0 : Value) (base m k : Nat) (xs : List Int) (n : Int) (w : World) (h : OwnB w base v0 m xs) (hb : base ≤ w.heap.size) (hk : k ≤ 8) (hm : m ≤ 100000000) :
    Calls Tryd.prog 16 #[v0, .int .i64 n, .int .i64 (k : Int)] w (LayEnd base (m + k) (xs ++ bytesOf k n) w v0) := by
  obtain ⟨a0, c0, rfl, _, _⟩ := h.form
  have H0 := Lib.hid h
  clear h
  go_enter Tryd.func16, Tryd.ntmps16
  go_wp2
  go_loopw [0, 1, 8] (fun v x i wr => ∃ j : Nat, j ≤ k ∧ i = .int .i64 j ∧ x = .int .i64 (n / 256 ^ j) ∧ OwnB wr base v (m + j) (xs ++ (bytesOf k n).take j) ∧ Grew w wr (.slice a0 m c0) v) (fun _ _ i _ => k - (intOf i).toNat)
  case atStart => exact ⟨0, by omega, rfl, by simp, by simpa using H0.out, Grew.refl _ _⟩
  case round =>
    obtain ⟨j, hj, rfl, rfl, ho, hg⟩ := hrel
    by_cases hlt : j < k
    · have dk : decide ((j : Int) < (k : Int)) = true := decide_eq_true (by omega)
      have dk' : decide (j < k) = true := decide_eq_true hlt
      have hq : n / 256 ^ (j + 1) = n / 256 ^ j / 256 := by rw [Int.pow_succ, ← Int.ediv_ediv_of_nonneg]; exact Int.pow_nonneg (by omega)
      have ht : (bytesOf k n).take (j + 1) = (bytesOf k n).take j ++ [n / 256 ^ j % 256] := by rw [List.take_add_one, bytesOf_get k n j hlt]; rfl
      have HQ := Lib.hid hq
      have HT := Lib.hid ht
      clear hq ht
      generalize n / 256 ^ j = X at HQ HT ⊢
      have hXb : IntKind.u8.wrap X = X % 256 := by rw [IntKind.wrap_u8]
      obtain ⟨a, c, rfl, hc, _⟩ := ho.form
      obtain ⟨v', w', hr, ho', hg'⟩ := grow_bytes (c := 1) (ho.on (below1 wr (.cells #[.int .u8 (X % 256)] 5))) (one_byte wr (X % 256) (by omega)) (Nat.le_trans (Nat.le_trans hb hg.size) (by simp)) (by omega) 25
      have HO := Lib.hid ho'
      have HG := Lib.hid (hg.trans hg'.pre)
      have HR := Lib.hid hr
      clear ho hg hr ho' hg'
      go_wp2_with (refine wpList_append_run rfl _ _ rfl rfl rfl rfl HR.out ?_)
      exact ⟨⟨j + 1, by omega, by simp, by rw [HQ.out], by rw [HT.out, ← List.append_assoc]; exact HO.out, HG.out⟩, by simp [intOf]; omega⟩
    · have dk : decide ((j : Int) < (k : Int)) = false := decide_eq_false (by omega)
      have dk' : decide (j < k) = false := decide_eq_false hlt
      obtain rfl : j = k := by omega
      have ht : (bytesOf j n).take j = bytesOf j n := List.take_of_length_le (by rw [length_bytesOf]; omega)
      rw [ht] at ho
      have HO := Lib.hid ho
      have HG := Lib.hid hg
      clear ho hg ht
      go_wp2
      go_ret
      exact ⟨_, rfl, HO.out, HG.out⟩

theorem cut19_any (b o n c i k : Nat) (w : World) (hk : i + k ≤ c) (hm : i + k ≤ 9223372036854775807) :
    Calls Tryd.prog 20 #[.slice (some ⟨b, o, none⟩) n c, .int .i64 (i : Int), .int .i64 (k : Int)] w fun e w' => ∃ o' c', e = .returned (.slice (some ⟨b, o', none⟩) k c') ∧ k ≤ c' ∧ (0 < k → o' = o + i) ∧ w = w' := by
  obtain ⟨o', ho, hr⟩ := cut3_run (b := b) (o := o) (n := n) (c := c) (i := i) (j := i + k) (k := i + k) (I := (i : Int)) (J := (i : Int) + (k : Int)) (K := (i : Int) + (k : Int)) rfl (by omega) (by omega) (by omega) (by omega) hk
  rw [show i + k - i = k by omega] at ho hr
  have HO := Lib.hid ho
  clear ho
  go_enter Tryd.func20, Tryd.ntmps20
  go_wp2
  go_ret
  exact ⟨o', k, rfl, Nat.le_refl _, HO.out, rfl⟩

theorem i64_wrap (V : Int) (h0 : 0 ≤ V) (h1 : V ≤ 18446744073709551615) : IntKind.i64.wrap V = i64 V := by
  unfold i64
  rw [IntKind.wrap_i64]
  split <;> omega
theorem word_len {ys : List Int} (hb : Byt ys) (hl : ys.length ≤ 8) : 0 ≤ wordOf ys ∧ wordOf ys ≤ 18446744073709551615 := by
  have h := wordOf_fit hb
  have : (256 : Int) ^ ys.length ≤ 18446744073709551616 := by
    have h : ys.length = 0 ∨ ys.length = 1 ∨ ys.length = 2 ∨ ys.length = 3 ∨ ys.length = 4 ∨ ys.length = 5 ∨ ys.length = 6 ∨ ys.length = 7 ∨ ys.length = 8 := by omega
    rcases h with h | h | h | h | h | h | h | h | h <;> rw [h] <;> decide
  omega
set_option maxHeartbeats 1000000 in
theorem number19_any (b o m c : Nat) (xs : List Int) (B : Nat) (w : World) (hx : Bytes w B (some ⟨b, o, none⟩) m xs) (h8 : m ≤ 8) :
    Calls Tryd.prog 19 #[.slice (some ⟨b, o, none⟩) m c] w (R1 (i64 (wordOf xs)) w) := by
  have HX := Lib.hid hx
  clear hx
  have HWI := Lib.hid (i64_wrap (wordOf xs) (word_len HX.out.fit (by rw [HX.out.len]; omega)).1 (word_len HX.out.fit (by rw [HX.out.len]; omega)).2)
  go_enter Tryd.func19, Tryd.ntmps19
  go_wp2
  go_loopw [3, 8] (fun v i wr => ∃ k : Nat, k ≤ m ∧ i = .int .i64 k ∧ v = .int .u64 (wordOf (xs.take k)) ∧ wr = w) (fun _ i _ => m - (intOf i).toNat)
  case atStart => exact ⟨0, by omega, rfl, rfl, rfl⟩
  case round =>
    obtain ⟨k, hk, rfl, rfl, rfl⟩ := hrel
    by_cases hlt : k < m
    · have dk : decide ((k : Int) < (m : Int)) = true := decide_eq_true (by omega)
      have dk' : decide (k < m) = true := decide_eq_true hlt
      obtain ⟨y, hy, y0, y1⟩ := HX.out.at_ hlt
      obtain ⟨b', o', e, _, hcell⟩ := HX.out.head (by omega)
      injection e with e
      injection e with e1 e2
      subst e1 e2
      have hcl := hcell k y hy
      have HE := Lib.hid (or_take HX.out.fit (by rw [HX.out.len]; omega) hy)
      clear hcell hy
      generalize wordOf (xs.take k) = V at HE ⊢
      go_wp2
      exact ⟨⟨k + 1, by omega, by simp, by rw [HE.out], trivial⟩, by simp [intOf]; omega⟩
    · have dk : decide ((k : Int) < (m : Int)) = false := decide_eq_false (by omega)
      have dk' : decide (k < m) = false := decide_eq_false hlt
      obtain rfl : k = m := by omega
      have HE : Hid (wordOf (xs.take k) = wordOf xs) := Lib.hid (by rw [List.take_of_length_le (by rw [HX.out.len]; omega)])
      rw [HE.out]
      have hwi := HWI.out
      clear HWI HE HX
      generalize wordOf xs = V at *
      go_wp2
      go_ret
      exact ⟨by rw [← hwi]; rfl, rfl⟩
end Go.Proofs.YtjnnblcafocdoaaDoor
