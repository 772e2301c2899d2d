/-
  The document's own answers for package arena (almeryref06): Load, Store.
-/
import Derived.Test.YtnopeifgcpibaaaArenaRefWrite
namespace Go.Proofs.Ytnopeifgcpibaaa
open Go.ChangeShapes Go.WideShapes Go.ChangeAt Go.RowKit

/-- A document's arena and an empty one, in two variables. -/
theorem rb_both (w : World) (a : Option Addr) (n c : Nat) (s : Int) :
    RB ((w.alloc (.cells #[.slice a n c, .int .i64 s] 33)).alloc (.cells #[.slice none 0 0, .int .i64 0] 33)) w.heap.size a n c s ∧
    RB ((w.alloc (.cells #[.slice a n c, .int .i64 s] 33)).alloc (.cells #[.slice none 0 0, .int .i64 0] 33)) (w.heap.size + 1) none 0 0 0 := by
  refine ⟨(RB.new w a n c s).below (below1 _ _), ?_⟩
  have := RB.new (w.alloc (.cells #[.slice a n c, .int .i64 s] 33)) none 0 0 0
  simpa using this

theorem refLoad_bad (a : Option Addr) (n c : Nat) (s at_ : Int) (w : World) (hn : n ≤ 4194304) (hz : wordErr n at_ ≠ 0) :
    Calls Try.prog 30 #[.agg #[.slice a n c, .int .i64 s], .int .i64 at_] w fun e w' => e = .returned (.tuple #[.agg #[.slice a n c, .int .i64 s], .int .u64 0, .int .i64 (wordErr n at_)]) ∧ Below w.heap.size w w' := by
  have HC := Lib.hid (fun w => refWorded_any a n c s at_ w hn)
  obtain ⟨X0, Z0⟩ := rb_both w a n c s
  have e1 : (wordErr n at_ == 0) = false := by simpa using hz
  have e2 : (wordErr n at_ != 0) = true := by simpa using hz
  generalize wordErr n at_ = q at HC e1 e2 ⊢
  have bW := below2 w (.cells #[.slice a n c, .int .i64 s] 33) (.cells #[.slice none 0 0, .int .i64 0] 33)
  clear hz
  go_enter Try.func30, Try.ntmps30
  go_wp2_with fail
  refine (HC.out _).mono ?_
  rintro e w1 ⟨rfl, b1⟩
  obtain ⟨p0, p1, p2, p3⟩ := X0.below b1
  obtain ⟨q0, q1, q2, q3⟩ := Z0.below b1
  have B1 := Lib.hid (belowT bW b1)
  clear X0 Z0 b1 bW
  go_wp2
  refine bodyPost_ret (v := .tuple #[.agg #[.slice a n c, .int .i64 s], .int .u64 0, .int .i64 q]) (by simp [results, Try.results30, go_sem, q0, q1]) rfl ?_
  have hb := but_two w1 (w.heap.size + 1) (.slice a n c) (.int .i64 s)
  exact ⟨rfl, B1.out.trans (hb.one B1.out.size (by omega))⟩

theorem wordOf_len {ys : List Int} (hb : Byt ys) (hl : ys.length ≤ 8) : 0 ≤ wordOf ys ∧ wordOf ys ≤ 18446744073709551615 := by
  have h := wordOf_fit hb
  have : (256 : Int) ^ ys.length ≤ 18446744073709551616 := by
    have h : ys.length = 0 ∨ ys.length = 1 ∨ ys.length = 2 ∨ ys.length = 3 ∨ ys.length = 4 ∨ ys.length = 5 ∨ ys.length = 6 ∨ ys.length = 7 ∨ ys.length = 8 := by omega
    rcases h with h | h | h | h | h | h | h | h | h <;> rw [h] <;> decide
  omega
theorem Byt.drop {xs : List Int} (h : Byt xs) (k : Nat) : Byt (xs.drop k) := fun x hx => h x (List.mem_of_mem_drop hx)

theorem refLoad_ok (b o n c at_ : Nat) (s : Int) (xs : List Int) (w : World) (hx : Bytes w w.heap.size (some ⟨b, o, none⟩) n xs) (hm : n ≤ 4194304) (s0 : 0 ≤ s) (s1 : s ≤ 1000000) (hf : at_ + 8 ≤ n) (h8 : at_ % 8 = 0) :
    Calls Try.prog 30 #[.agg #[.slice (some ⟨b, o, none⟩) n c, .int .i64 s], .int .i64 (at_ : Int)] w fun e w' => e = .returned (.tuple #[.agg #[.slice (some ⟨b, o, none⟩) n c, .int .i64 (s + 1)], .int .u64 (wordOf (sub xs at_ 8)), .int .i64 0]) ∧ Below w.heap.size w w' := by
  have HE : wordErr n (at_ : Int) = 0 := by
    have ht : thereB n (at_ : Int) 8 := ⟨by omega, by omega, by omega⟩
    have : (at_ : Int) % 8 = 0 := by omega
    simp [wordErr, ht, this]
  have HC := Lib.hid (fun w => refWorded_any (some ⟨b, o, none⟩) n c s at_ w hm)
  rw [HE] at HC
  obtain ⟨X0, Z0⟩ := rb_both w (some ⟨b, o, none⟩) n c s
  have bW := below2 w (.cells #[.slice (some ⟨b, o, none⟩) n c, .int .i64 s] 33) (.cells #[.slice none 0 0, .int .i64 0] 33)
  have hws : IntKind.i64.wrap (s + 1) = s + 1 := IntWalk.i64_in _ (by omega)
  have hl8 : (sub xs at_ 8).length = 8 := length_sub _ _ _ (by rw [hx.len]; exact hf)
  have HL := Lib.hid hl8
  have HFT := Lib.hid (hx.fit.sub at_ 8)
  have HX := Lib.hid hx
  have HF := Lib.hid hf
  clear hx h8 HE hl8 hf s0 s1
  go_enter Try.func30, Try.ntmps30
  go_wp2_with fail
  refine (HC.out _).mono ?_
  rintro e w1 ⟨rfl, b1⟩
  obtain ⟨p0, p1, p2, p3⟩ := X0.below b1
  obtain ⟨q0, q1, q2, q3⟩ := Z0.below b1
  have B1 := Lib.hid (belowT bW b1)
  have hx1 := HX.out.below B1.out
  obtain ⟨b', o', e, hb, hcell⟩ := hx1.head (by have := HF.out; omega)
  injection e with e
  injection e with e1 e2
  subst e1 e2
  have HCL := Lib.hid hcell
  clear X0 Z0 b1 bW hcell hx1
  go_wp2
  go_loopw [8, 9] (fun v i wr => ∃ k : Nat, k ≤ 8 ∧ i = .int .i64 ((k : Int) - 1) ∧ v = .int .u64 (wordOf ((sub xs at_ 8).drop k)) ∧ wr = w1) (fun _ i _ => (intOf i + 1).toNat)
  case atStart => exact ⟨8, by omega, rfl, by rw [List.drop_eq_nil_of_le (by rw [HL.out]; omega)]; rfl, rfl⟩
  case round =>
    obtain ⟨k, hk, rfl, rfl, rfl⟩ := hrel
    by_cases h0 : k = 0
    · subst h0
      have dk : decide ((0 : Int) ≤ ((0 : Nat) : Int) - 1) = false := by decide
      rw [List.drop_zero]
      generalize hVV : wordOf (sub xs at_ 8) = V
      have HV := Lib.hid hVV
      clear hVV
      go_wp2
      refine bodyPost_ret (v := .tuple #[.agg #[.slice (some ⟨b, o, none⟩) n c, .int .i64 (s + 1)], .int .u64 V, .int .i64 0]) (by simp [results, Try.results30, go_sem, q0, q1]) rfl ?_
      have hlt2 : w.heap.size + 1 < wr.heap.size := lt_of_cell (p := ⟨w.heap.size + 1, 0, none⟩) q0
      have hb := ((But.refl (fun i => i = w.heap.size ∨ i = w.heap.size + 1) wr).setCell (p := ⟨w.heap.size, 1, none⟩) (fun _ => Or.inl rfl) (.int .i64 (s + 1))).trans ((but_two _ (w.heap.size + 1) (.slice (some ⟨b, o, none⟩) n c) (.int .i64 (s + 1))).mono (fun _ _ e => Or.inr e))
      exact ⟨by rw [HV.out], B1.out.trans (hb.below B1.out.size (fun k hk e => by omega))⟩
    · obtain ⟨j, rfl⟩ : ∃ j, k = j + 1 := ⟨k - 1, by omega⟩
      have hkj : ((j + 1 : Nat) : Int) - 1 = (j : Int) := by omega
      rw [hkj]
      have dk : decide ((0 : Int) ≤ (j : Int)) = true := by simp
      have hy : (sub xs at_ 8)[j]? = some ((sub xs at_ 8)[j]'(by rw [HL.out]; omega)) := List.getElem?_eq_getElem _
      generalize (sub xs at_ 8)[j]'(by rw [HL.out]; omega) = y at hy
      have hyb := HFT.out.get hy
      have hcy := HCL.out (at_ + j) y (by rw [← sub_get (show j < 8 by omega)]; exact hy)
      have hV := wordOf_len (HFT.out.drop (j + 1)) (by rw [List.length_drop, HL.out]; omega)
      have hV2 := wordOf_len (HFT.out.drop j) (by rw [List.length_drop, HL.out]; omega)
      have hE := wordOf_drop hy
      have hw : IntKind.i64.wrap ((at_ : Int) + (j : Int)) = ((at_ + j : Nat) : Int) := by rw [IntWalk.i64_in _ (by have := HF.out; omega)]; simp
      have hjn : at_ + j < n := by have := HF.out; omega
      have hcy2 : wr.cell? ⟨b, o + (at_ + j), none⟩ = some (.int .u8 y) := hcy
      generalize hV' : wordOf ((sub xs at_ 8).drop j) = V' at hE hV2
      generalize wordOf ((sub xs at_ 8).drop (j + 1)) = V at hE hV ⊢
      have hw1 : IntKind.u64.wrap (V * 256) = V * 256 := by rw [IntKind.wrap_u64]; omega
      have hw2 : IntKind.u64.wrap (V * 256 + y) = V' := by rw [IntKind.wrap_u64]; omega
      obtain ⟨i, hi⟩ : ∃ i, i = at_ + j := ⟨_, rfl⟩
      rw [← hi] at hw hcy2 hjn
      have HV' := Lib.hid hV'
      clear hcy hy hV' hE hi
      go_wp2
      exact ⟨⟨j, by omega, rfl, by rw [HV'.out], trivial⟩, by simp [intOf]⟩

theorem refStore_bad (a : Option Addr) (n c : Nat) (s at_ v : Int) (w : World) (hn : n ≤ 4194304) (hz : wordErr n at_ ≠ 0) :
    Calls Try.prog 31 #[.agg #[.slice a n c, .int .i64 s], .int .i64 at_, .int .u64 v] w fun e w' => e = .returned (.tuple #[.agg #[.slice a n c, .int .i64 s], .int .i64 (wordErr n at_)]) ∧ Below w.heap.size w w' := by
  have HC := Lib.hid (fun w => refWorded_any a n c s at_ w hn)
  obtain ⟨X0, Z0⟩ := rb_both w a n c s
  have e1 : (wordErr n at_ == 0) = false := by simpa using hz
  have e2 : (wordErr n at_ != 0) = true := by simpa using hz
  generalize wordErr n at_ = q at HC e1 e2 ⊢
  have bW := below2 w (.cells #[.slice a n c, .int .i64 s] 33) (.cells #[.slice none 0 0, .int .i64 0] 33)
  clear hz
  go_enter Try.func31, Try.ntmps31
  go_wp2_with fail
  refine (HC.out _).mono ?_
  rintro e w1 ⟨rfl, b1⟩
  obtain ⟨p0, p1, p2, p3⟩ := X0.below b1
  obtain ⟨q0, q1, q2, q3⟩ := Z0.below b1
  have B1 := Lib.hid (belowT bW b1)
  clear X0 Z0 b1 bW
  go_wp2
  refine bodyPost_ret (v := .tuple #[.agg #[.slice a n c, .int .i64 s], .int .i64 q]) (by simp [results, Try.results31, go_sem, q0, q1]) rfl ?_
  have hb := but_two w1 (w.heap.size + 1) (.slice a n c) (.int .i64 s)
  exact ⟨rfl, B1.out.trans (hb.one B1.out.size (by omega))⟩

theorem refStore_ok (a : Option Addr) (n c at_ : Nat) (s v : Int) (xs : List Int) (w : World) (hx : Bytes w w.heap.size a n xs) (hn : 0 < n) (hm : n ≤ 4194304) (s0 : 0 ≤ s) (s1 : s ≤ 1000000) (hf : at_ + 8 ≤ n) (h8 : at_ % 8 = 0) (v0 : 0 ≤ v) (v1 : v ≤ 18446744073709551615) :
    Calls Try.prog 31 #[.agg #[.slice a n c, .int .i64 s], .int .i64 (at_ : Int), .int .u64 v] w (Lays n (s + 1) (splice xs at_ (bytesOf 8 v)) w) := by
  have HE : wordErr n (at_ : Int) = 0 := by
    have ht : thereB n (at_ : Int) 8 := ⟨by omega, by omega, by omega⟩
    have : (at_ : Int) % 8 = 0 := by omega
    simp [wordErr, ht, this]
  have HC := Lib.hid (fun w => refWorded_any a n c s at_ w hm)
  rw [HE] at HC
  obtain ⟨X0, Z0⟩ := rb_both w a n c s
  have bW := below2 w (.cells #[.slice a n c, .int .i64 s] 33) (.cells #[.slice none 0 0, .int .i64 0] 33)
  have hws : IntKind.i64.wrap (s + 1) = s + 1 := IntWalk.i64_in _ (by omega)
  have hmk : ∀ v, (Instr.makeSlice 31 (.int .i64 8) (.int .i64 8)).run Try.prog v = .ok (.slice (some ⟨v.heap.size, 0, none⟩) 8 8) (v.alloc (zeros 8)) := make_run 8 (by omega)
  have HX := Lib.hid hx
  have HF := Lib.hid hf
  have sW : ((w.alloc (.cells #[.slice a n c, .int .i64 s] 33)).alloc (.cells #[.slice none 0 0, .int .i64 0] 33)).heap.size = w.heap.size + 2 := by simp
  clear hx h8 HE hf s0 s1
  go_enter Try.func31, Try.ntmps31
  go_wp2_with fail
  refine (HC.out _).mono ?_
  rintro e w1 ⟨rfl, b1⟩
  have X1 := Lib.hid ((X0.below b1).below (below1 w1 (zeros 8)))
  have Z1 := Lib.hid ((Z0.below b1).below (below1 w1 (zeros 8)))
  have B1 := Lib.hid (belowT bW b1)
  have S1 : Hid (w.heap.size + 2 ≤ w1.heap.size) := Lib.hid (by have := b1.size; rw [sW] at this; exact this)
  have F0 : Hid (LaidTo (List.replicate 8 0) (bytesOf 8 v) 0 w1.heap.size (w1.alloc (zeros 8)) 0 (w1.alloc (zeros 8))) := Lib.hid ⟨by rw [List.take_zero, splice_nil _ _ (by omega)]; exact zeros_row w1 8 (by omega), But.refl _ _⟩
  clear X0 Z0 b1 bW sW HC
  go_wp2
  go_loopw [2, 10] (fun x i wr => ∃ k : Nat, k ≤ 8 ∧ i = .int .i64 k ∧ x = .int .u64 (v / 256 ^ k) ∧ LaidTo (List.replicate 8 0) (bytesOf 8 v) 0 w1.heap.size (w1.alloc (zeros 8)) k wr) (fun _ i _ => 8 - (intOf i).toNat)
  case atStart => exact ⟨0, by omega, rfl, by simp, F0.out⟩
  case round =>
    obtain ⟨k, hk, rfl, rfl, hr⟩ := hrel
    by_cases hlt : k < 8
    · have dk : decide ((k : Int) < 8) = true := by simp; omega
      have hl : 0 + (bytesOf 8 v).length ≤ (List.replicate 8 (0 : Int)).length := by simp [length_bytesOf]
      have hcx := hr.row.cell k _ (List.getElem?_eq_getElem (by rw [hr.length hl, List.length_replicate]; exact hlt))
      have hfx := hr.row.free k (by rw [hr.length hl, List.length_replicate]; exact hlt)
      generalize (splice (List.replicate 8 (0 : Int)) 0 ((bytesOf 8 v).take k))[k]'(by rw [hr.length hl, List.length_replicate]; exact hlt) = z at hcx
      have HR := Lib.hid (hr.next hl (bytesOf_get 8 v k hlt) ⟨by omega, by omega⟩)
      rw [Nat.zero_add] at HR
      have hq : v / 256 ^ (k + 1) = v / 256 ^ k / 256 := by rw [Int.pow_succ, ← Int.ediv_ediv_of_nonneg]; exact Int.pow_nonneg (by omega)
      have HQ := Lib.hid hq
      have hX0 : 0 ≤ v / 256 ^ k := Int.ediv_nonneg v0 (Int.pow_nonneg (by omega))
      have hX1 : v / 256 ^ k ≤ 18446744073709551615 := Int.le_trans (Int.ediv_le_self _ v0) v1
      generalize v / 256 ^ k = X at HR HQ hX0 hX1 ⊢
      have hXd : IntKind.u64.wrap (X.tdiv 256) = X / 256 := by rw [Int.tdiv_eq_ediv_of_nonneg hX0, IntKind.wrap_u64]; omega
      clear hr hl hq
      go_wp2
      exact ⟨⟨k + 1, by omega, by simp, by first | rw [HQ.out] | rw [HQ.out, hXd], HR.out⟩, by simp [intOf]; omega⟩
    · have dk : decide ((k : Int) < 8) = false := by simp; omega
      obtain rfl : k = 8 := by omega
      have hR := hr.row
      rw [List.take_of_length_le (by rw [length_bytesOf]; omega), splice_whole (by simp [length_bytesOf])] at hR
      have hb := hr.but
      obtain ⟨p0, p1, p2, p3⟩ := X1.out.but hb (fun e => by have := S1.out; omega)
      have B2 : Hid (Below w1.heap.size w1 wr) := Lib.hid ((below1 w1 _).trans (hb.one (by simp) (Nat.le_refl _)))
      have hs : But (· = w.heap.size) wr (wr.setCell ⟨w.heap.size, 1, none⟩ (.int .i64 (s + 1))) := (But.refl (· = w.heap.size) wr).setCell (p := ⟨w.heap.size, 1, none⟩) (fun _ => rfl) _
      have Z2 := Lib.hid ((Z1.out.but hb (fun e => by have := S1.out; omega)).but hs (fun e => by omega))
      have Y2 := Lib.hid ((hR.but hs (fun e => by have := S1.out; omega)).bytes (at_ := 0) (o := 0) (k := 8) (by rw [length_bytesOf]; omega) (fun _ => rfl))
      rw [show sub (bytesOf 8 v) 0 8 = bytesOf 8 v by have := sub_all (bytesOf 8 v); rwa [length_bytesOf] at this] at Y2
      have B3 := Lib.hid ((belowT B1.out B2.out).trans (hs.one (belowT B1.out B2.out).size (Nat.le_refl _)))
      have X2 := Lib.hid ((HX.out.below B3.out).more B3.out.size)
      have S3 : Hid (w.heap.size + 2 ≤ (wr.setCell ⟨w.heap.size, 1, none⟩ (.int .i64 (s + 1))).heap.size) := Lib.hid (by have := S1.out; have := B2.out.size; have := hs.size; omega)
      generalize v / 256 ^ 8 = X
      clear hr hR hb hs
      go_wp2_with fail
      refine (refLay_any a n c (s + 1) at_ (some ⟨w1.heap.size, 0, none⟩) 8 8 xs (bytesOf 8 v) _ X2.out Y2.out hn hm HF.out).mono ?_
      rintro e w5 ⟨g, cap, rfl, r5, b5, hcap, hg⟩
      obtain ⟨q0, q1, q2, q3⟩ := Z2.out.below b5
      have R5 := Lib.hid r5
      have B5 := Lib.hid b5
      have HCP := Lib.hid hcap
      have HG := Lib.hid hg
      clear r5 b5 hcap hg p0 p1 p2 p3
      go_wp2
      refine bodyPost_ret (v := .tuple #[.agg #[.slice (some ⟨g, 0, none⟩) n cap, .int .i64 (s + 1)], .int .i64 0]) (by simp [results, Try.results31, go_sem, q0, q1]) rfl ?_
      have hb := but_two w5 (w.heap.size + 1) (.slice (some ⟨g, 0, none⟩) n cap) (.int .i64 (s + 1))
      have hG := HG.out
      have h1 := S3.out
      have B6 := belowT B3.out B5.out
      exact ⟨g, cap, rfl, R5.out.but hb (fun e => by omega), B6.trans (hb.one B6.size (by omega)), HCP.out, by omega⟩
end Go.Proofs.Ytnopeifgcpibaaa
