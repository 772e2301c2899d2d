/-
  The document's own 'Do' (a use of an arena; almeryref06), met by one contract: it comes to the same plain function ('useOut') as the law's own 'do'.
-/
import Derived.Test.YtnopeifgcpibaaaArenaOut
import Derived.Test.YtnopeifgcpibaaaArenaRefCopy
import Derived.Test.YtnopeifgcpibaaaArenaRefWord
namespace Go.Proofs.Ytnopeifgcpibaaa
open Go.ChangeShapes Go.WideShapes Go.ChangeAt Go.RowKit

/-- How the document's 'Do' ends. -/
def RefEnds (b0 n : Nat) (s : Int) (o : Out) (w : World) (e : Ending) (w' : World) : Prop :=
  ∃ (b p c : Nat) (ta : Option Addr) (tn tc : Nat), e = .returned (.tuple #[.agg #[.slice (some ⟨b, p, none⟩) n c, .int .i64 (s + o.steps)], .slice ta tn tc, .int .u64 o.word, .int .i64 o.err]) ∧
    Bytes w' w'.heap.size (some ⟨b, p, none⟩) n o.xs ∧ n ≤ c ∧ Bytes w' w'.heap.size ta tn o.told ∧ Below w.heap.size w w' ∧ (b = b0 ∨ w.heap.size ≤ b) ∧ (0 < tn → ∃ o1, ta = some ⟨b, o1, none⟩)
theorem rb_three (w : World) (A U : Obj) : RB (((w.alloc A).alloc U).alloc (.cells #[.slice none 0 0, .int .i64 0] 33)) (w.heap.size + 1 + 1) none 0 0 0 := by
  have := RB.new ((w.alloc A).alloc U) none 0 0 0
  simpa using this

theorem refDo0_ok (b o n c : Nat) (s : Int) (xs : List Int) (w : World) (hx : Bytes w w.heap.size (some ⟨b, o, none⟩) n xs) (hnc : n ≤ c) (hm : n ≤ 4194304) (s0 : 0 ≤ s) (s1 : s ≤ 1000000) (kind at_ from_ k v : Int) (ba : Option Addr) (bn bc : Nat) (hk : 0 ≤ kind ∧ kind ≤ 255) (hr : kind % 6 = 0) (ht : thereB n at_ k) :
    Calls Try.prog 14 #[.agg #[.slice (some ⟨b, o, none⟩) n c, .int .i64 s], .agg #[.int .u8 kind, .int .i64 at_, .int .i64 from_, .int .i64 k, .int .u64 v, .slice ba bn bc]] w (RefEnds b n s ⟨sub xs at_.toNat k.toNat, 0, 0, xs, k⟩ w) := by
  have hr2 : kind.tmod 6 = 0 := by rw [Int.tmod_eq_emod_of_nonneg (by omega)]; exact hr
  have Z0 := rb_three w (.cells #[.slice (some ⟨b, o, none⟩) n c, .int .i64 s] 33) (.cells #[.int .u8 kind, .int .i64 at_, .int .i64 from_, .int .i64 k, .int .u64 v, .slice ba bn bc] 40)
  have bW := below3 w (.cells #[.slice (some ⟨b, o, none⟩) n c, .int .i64 s] 33) (.cells #[.int .u8 kind, .int .i64 at_, .int .i64 from_, .int .i64 k, .int .u64 v, .slice ba bn bc] 40) (.cells #[.slice none 0 0, .int .i64 0] 33)
  have HX := Lib.hid hx
  have HNC := Lib.hid hnc
  obtain ⟨a, rfl⟩ : ∃ a : Nat, at_ = (a : Int) := ⟨at_.toNat, by have := ht.1; omega⟩
  obtain ⟨j, rfl⟩ : ∃ j : Nat, k = (j : Int) := ⟨k.toNat, by have := ht.2.1; omega⟩
  have HC := Lib.hid (refRead_ok b o n c a j s (((w.alloc (.cells #[.slice (some ⟨b, o, none⟩) n c, .int .i64 s] 33)).alloc (.cells #[.int .u8 kind, .int .i64 (a : Int), .int .i64 from_, .int .i64 (j : Int), .int .u64 v, .slice ba bn bc] 40)).alloc (.cells #[.slice none 0 0, .int .i64 0] 33)) hm hnc s0 s1 (by have := ht.2.2; omega))
  have HT := Lib.hid ht
  clear hx hnc hk ht s0 s1 hm
  go_enter Try.func14, Try.ntmps14
  go_wp2_with fail
  refine HC.out.mono ?_
  rintro e w1 ⟨o1, c1, rfl, ho, b1⟩
  have HO := Lib.hid ho
  clear ho
  obtain ⟨q0, q1, q2, q3⟩ := (Z0.below b1).below (below1 w1 (.cells #[.slice (some ⟨b, o, none⟩) n c, .int .i64 (s + (j : Int))] 33))
  have B1 := Lib.hid (belowT (belowT bW b1) (below1 w1 (.cells #[.slice (some ⟨b, o, none⟩) n c, .int .i64 (s + (j : Int))] 33)))
  have HS : Hid (w.heap.size + 1 + 1 + 1 ≤ w1.heap.size) := Lib.hid (by have := b1.size; simpa using this)
  clear b1 Z0 bW HC
  go_wp2
  refine bodyPost_ret (v := .tuple #[.agg #[.slice (some ⟨b, o, none⟩) n c, .int .i64 (s + (j : Int))], (.slice (some ⟨b, o1, none⟩) j c1), .int .u64 0, .int .i64 0]) (by simp [results, Try.results14, go_sem, q0, q1]) rfl ?_
  have hb := but_two (w1.alloc (.cells #[.slice (some ⟨b, o, none⟩) n c, .int .i64 (s + (j : Int))] 33)) (w.heap.size + 1 + 1) (.slice (some ⟨b, o, none⟩) n c) (.int .i64 (s + (j : Int)))
  have B2 := B1.out.trans (hb.one B1.out.size (by omega))
  exact ⟨b, o, c, some ⟨b, o1, none⟩, j, c1, rfl, HX.out.on B2, HNC.out, (HX.out.on B2).part (by have := HT.out.2.2; omega) HO.out, B2, Or.inl rfl, fun _ => ⟨o1, rfl⟩⟩

theorem refDo0_bad (b o n c : Nat) (s : Int) (xs : List Int) (w : World) (hx : Bytes w w.heap.size (some ⟨b, o, none⟩) n xs) (hnc : n ≤ c) (hm : n ≤ 4194304) (kind at_ from_ k v : Int) (ba : Option Addr) (bn bc : Nat) (hk : 0 ≤ kind ∧ kind ≤ 255) (hr : kind % 6 = 0) (ht : ¬ thereB n at_ k) :
    Calls Try.prog 14 #[.agg #[.slice (some ⟨b, o, none⟩) n c, .int .i64 s], .agg #[.int .u8 kind, .int .i64 at_, .int .i64 from_, .int .i64 k, .int .u64 v, .slice ba bn bc]] w (RefEnds b n s ⟨[], 0, 8, xs, 0⟩ w) := by
  have hr2 : kind.tmod 6 = 0 := by rw [Int.tmod_eq_emod_of_nonneg (by omega)]; exact hr
  have Z0 := rb_three w (.cells #[.slice (some ⟨b, o, none⟩) n c, .int .i64 s] 33) (.cells #[.int .u8 kind, .int .i64 at_, .int .i64 from_, .int .i64 k, .int .u64 v, .slice ba bn bc] 40)
  have bW := below3 w (.cells #[.slice (some ⟨b, o, none⟩) n c, .int .i64 s] 33) (.cells #[.int .u8 kind, .int .i64 at_, .int .i64 from_, .int .i64 k, .int .u64 v, .slice ba bn bc] 40) (.cells #[.slice none 0 0, .int .i64 0] 33)
  have HX := Lib.hid hx
  have HNC := Lib.hid hnc
  have HC := Lib.hid (refRead_bad (some ⟨b, o, none⟩) n c s at_ k (((w.alloc (.cells #[.slice (some ⟨b, o, none⟩) n c, .int .i64 s] 33)).alloc (.cells #[.int .u8 kind, .int .i64 at_, .int .i64 from_, .int .i64 k, .int .u64 v, .slice ba bn bc] 40)).alloc (.cells #[.slice none 0 0, .int .i64 0] 33)) hm ht)
  clear hx hnc hk hm ht
  go_enter Try.func14, Try.ntmps14
  go_wp2_with fail
  refine HC.out.mono ?_
  rintro e w1 ⟨rfl, b1⟩
  obtain ⟨q0, q1, q2, q3⟩ := (Z0.below b1).below (below1 w1 (.cells #[.slice (some ⟨b, o, none⟩) n c, .int .i64 s] 33))
  have B1 := Lib.hid (belowT (belowT bW b1) (below1 w1 (.cells #[.slice (some ⟨b, o, none⟩) n c, .int .i64 s] 33)))
  have HS : Hid (w.heap.size + 1 + 1 + 1 ≤ w1.heap.size) := Lib.hid (by have := b1.size; simpa using this)
  clear b1 Z0 bW HC
  go_wp2
  refine bodyPost_ret (v := .tuple #[.agg #[.slice (some ⟨b, o, none⟩) n c, .int .i64 s], (.slice none 0 0), .int .u64 0, .int .i64 8]) (by simp [results, Try.results14, go_sem, q0, q1]) rfl ?_
  have hb := but_two (w1.alloc (.cells #[.slice (some ⟨b, o, none⟩) n c, .int .i64 s] 33)) (w.heap.size + 1 + 1) (.slice (some ⟨b, o, none⟩) n c) (.int .i64 s)
  have B2 := B1.out.trans (hb.one B1.out.size (by omega))
  exact ⟨b, o, c, none, 0, 0, by simp, HX.out.on B2, HNC.out, Bytes.zero _ _ _, B2, Or.inl rfl, fun h => absurd h (by omega)⟩

theorem refDo1_ok (b o n c : Nat) (s : Int) (xs : List Int) (w : World) (hx : Bytes w w.heap.size (some ⟨b, o, none⟩) n xs) (hnc : n ≤ c) (hm : n ≤ 4194304) (hn : 0 < n) (s0 : 0 ≤ s) (s1 : s ≤ 1000000) (kind at_ from_ k v : Int) (ba : Option Addr) (bn bc : Nat) (hk : 0 ≤ kind ∧ kind ≤ 255) (hr : kind % 6 = 1) (bs : List Int) (hy : Bytes w w.heap.size ba bn bs) (ht : thereB n at_ bn) :
    Calls Try.prog 14 #[.agg #[.slice (some ⟨b, o, none⟩) n c, .int .i64 s], .agg #[.int .u8 kind, .int .i64 at_, .int .i64 from_, .int .i64 k, .int .u64 v, .slice ba bn bc]] w (RefEnds b n s ⟨[], 0, 0, splice xs at_.toNat bs, bn⟩ w) := by
  have hr2 : kind.tmod 6 = 1 := by rw [Int.tmod_eq_emod_of_nonneg (by omega)]; exact hr
  have Z0 := rb_three w (.cells #[.slice (some ⟨b, o, none⟩) n c, .int .i64 s] 33) (.cells #[.int .u8 kind, .int .i64 at_, .int .i64 from_, .int .i64 k, .int .u64 v, .slice ba bn bc] 40)
  have bW := below3 w (.cells #[.slice (some ⟨b, o, none⟩) n c, .int .i64 s] 33) (.cells #[.int .u8 kind, .int .i64 at_, .int .i64 from_, .int .i64 k, .int .u64 v, .slice ba bn bc] 40) (.cells #[.slice none 0 0, .int .i64 0] 33)
  have HX := Lib.hid hx
  have HNC := Lib.hid hnc
  obtain ⟨a, rfl⟩ : ∃ a : Nat, at_ = (a : Int) := ⟨at_.toNat, by have := ht.1; omega⟩
  have HC := Lib.hid (refWrite_ok (some ⟨b, o, none⟩) n c s a ba bn bc xs bs (((w.alloc (.cells #[.slice (some ⟨b, o, none⟩) n c, .int .i64 s] 33)).alloc (.cells #[.int .u8 kind, .int .i64 (a : Int), .int .i64 from_, .int .i64 k, .int .u64 v, .slice ba bn bc] 40)).alloc (.cells #[.slice none 0 0, .int .i64 0] 33)) (hx.on bW) (hy.on bW) hn hm s0 s1 (by have := ht.2.2; omega))
  have HLN : Hid ((splice xs a bs).length = n) := Lib.hid (by rw [length_splice _ _ _ (by rw [hx.len, hy.len]; have := ht.2.2; omega), hx.len])
  clear hx hnc hk hm hn s0 s1
  go_enter Try.func14, Try.ntmps14
  go_wp2_with fail
  refine HC.out.mono ?_
  rintro e w1 ⟨g, cap, rfl, r1, b1, hcap, hg⟩
  have HR := Lib.hid r1
  have HCP := Lib.hid hcap
  have HG := Lib.hid hg
  clear r1 hcap hg
  obtain ⟨q0, q1, q2, q3⟩ := (Z0.below b1).below (below1 w1 (.cells #[.slice (some ⟨g, 0, none⟩) n cap, .int .i64 (s + (bn : Int))] 33))
  have B1 := Lib.hid (belowT (belowT bW b1) (below1 w1 (.cells #[.slice (some ⟨g, 0, none⟩) n cap, .int .i64 (s + (bn : Int))] 33)))
  have HS : Hid (w.heap.size + 1 + 1 + 1 ≤ w1.heap.size) := Lib.hid (by have := b1.size; simpa using this)
  clear b1 Z0 bW HC
  go_wp2
  refine bodyPost_ret (v := .tuple #[.agg #[.slice (some ⟨g, 0, none⟩) n cap, .int .i64 (s + (bn : Int))], (.slice none 0 0), .int .u64 0, .int .i64 0]) (by simp [results, Try.results14, go_sem, q0, q1]) rfl ?_
  have hb := but_two (w1.alloc (.cells #[.slice (some ⟨g, 0, none⟩) n cap, .int .i64 (s + (bn : Int))] 33)) (w.heap.size + 1 + 1) (.slice (some ⟨g, 0, none⟩) n cap) (.int .i64 (s + (bn : Int)))
  have B2 := B1.out.trans (hb.one B1.out.size (by omega))
  have hs := HS.out
  have hr4 := (HR.out.below (below1 w1 _)).but hb (fun e => by have := HG.out; simp at this; omega)
  exact ⟨g, 0, cap, none, 0, 0, by simp, hr4.all (HLN.out), HCP.out, Bytes.zero _ _ _, B2, Or.inr (by have := HG.out; simp at this; omega), fun h => absurd h (by omega)⟩

theorem refDo1_bad (b o n c : Nat) (s : Int) (xs : List Int) (w : World) (hx : Bytes w w.heap.size (some ⟨b, o, none⟩) n xs) (hnc : n ≤ c) (hm : n ≤ 4194304) (kind at_ from_ k v : Int) (ba : Option Addr) (bn bc : Nat) (hk : 0 ≤ kind ∧ kind ≤ 255) (hr : kind % 6 = 1) (hl : bn ≤ 9223372036854775807) (ht : ¬ thereB n at_ bn) :
    Calls Try.prog 14 #[.agg #[.slice (some ⟨b, o, none⟩) n c, .int .i64 s], .agg #[.int .u8 kind, .int .i64 at_, .int .i64 from_, .int .i64 k, .int .u64 v, .slice ba bn bc]] w (RefEnds b n s ⟨[], 0, 8, xs, 0⟩ w) := by
  have hr2 : kind.tmod 6 = 1 := by rw [Int.tmod_eq_emod_of_nonneg (by omega)]; exact hr
  have Z0 := rb_three w (.cells #[.slice (some ⟨b, o, none⟩) n c, .int .i64 s] 33) (.cells #[.int .u8 kind, .int .i64 at_, .int .i64 from_, .int .i64 k, .int .u64 v, .slice ba bn bc] 40)
  have bW := below3 w (.cells #[.slice (some ⟨b, o, none⟩) n c, .int .i64 s] 33) (.cells #[.int .u8 kind, .int .i64 at_, .int .i64 from_, .int .i64 k, .int .u64 v, .slice ba bn bc] 40) (.cells #[.slice none 0 0, .int .i64 0] 33)
  have HX := Lib.hid hx
  have HNC := Lib.hid hnc
  have HC := Lib.hid (refWrite_bad (some ⟨b, o, none⟩) n c s at_ ba bn bc (((w.alloc (.cells #[.slice (some ⟨b, o, none⟩) n c, .int .i64 s] 33)).alloc (.cells #[.int .u8 kind, .int .i64 at_, .int .i64 from_, .int .i64 k, .int .u64 v, .slice ba bn bc] 40)).alloc (.cells #[.slice none 0 0, .int .i64 0] 33)) hm hl ht)
  clear hx hnc hk hm ht hl
  go_enter Try.func14, Try.ntmps14
  go_wp2_with fail
  refine HC.out.mono ?_
  rintro e w1 ⟨rfl, b1⟩
  obtain ⟨q0, q1, q2, q3⟩ := (Z0.below b1).below (below1 w1 (.cells #[.slice (some ⟨b, o, none⟩) n c, .int .i64 s] 33))
  have B1 := Lib.hid (belowT (belowT bW b1) (below1 w1 (.cells #[.slice (some ⟨b, o, none⟩) n c, .int .i64 s] 33)))
  have HS : Hid (w.heap.size + 1 + 1 + 1 ≤ w1.heap.size) := Lib.hid (by have := b1.size; simpa using this)
  clear b1 Z0 bW HC
  go_wp2
  refine bodyPost_ret (v := .tuple #[.agg #[.slice (some ⟨b, o, none⟩) n c, .int .i64 s], (.slice none 0 0), .int .u64 0, .int .i64 8]) (by simp [results, Try.results14, go_sem, q0, q1]) rfl ?_
  have hb := but_two (w1.alloc (.cells #[.slice (some ⟨b, o, none⟩) n c, .int .i64 s] 33)) (w.heap.size + 1 + 1) (.slice (some ⟨b, o, none⟩) n c) (.int .i64 s)
  have B2 := B1.out.trans (hb.one B1.out.size (by omega))
  exact ⟨b, o, c, none, 0, 0, by simp, HX.out.on B2, HNC.out, Bytes.zero _ _ _, B2, Or.inl rfl, fun h => absurd h (by omega)⟩

theorem refDo2_ok (b o n c : Nat) (s : Int) (xs : List Int) (w : World) (hx : Bytes w w.heap.size (some ⟨b, o, none⟩) n xs) (hnc : n ≤ c) (hm : n ≤ 4194304) (hn : 0 < n) (s0 : 0 ≤ s) (s1 : s ≤ 1000000) (kind at_ from_ k v : Int) (ba : Option Addr) (bn bc : Nat) (hk : 0 ≤ kind ∧ kind ≤ 255) (hr : kind % 6 = 2) (ht : thereB n at_ k) :
    Calls Try.prog 14 #[.agg #[.slice (some ⟨b, o, none⟩) n c, .int .i64 s], .agg #[.int .u8 kind, .int .i64 at_, .int .i64 from_, .int .i64 k, .int .u64 v, .slice ba bn bc]] w (RefEnds b n s ⟨[], 0, 0, splice xs at_.toNat (List.replicate k.toNat (v % 256)), k⟩ w) := by
  have hr2 : kind.tmod 6 = 2 := by rw [Int.tmod_eq_emod_of_nonneg (by omega)]; exact hr
  have Z0 := rb_three w (.cells #[.slice (some ⟨b, o, none⟩) n c, .int .i64 s] 33) (.cells #[.int .u8 kind, .int .i64 at_, .int .i64 from_, .int .i64 k, .int .u64 v, .slice ba bn bc] 40)
  have bW := below3 w (.cells #[.slice (some ⟨b, o, none⟩) n c, .int .i64 s] 33) (.cells #[.int .u8 kind, .int .i64 at_, .int .i64 from_, .int .i64 k, .int .u64 v, .slice ba bn bc] 40) (.cells #[.slice none 0 0, .int .i64 0] 33)
  have HX := Lib.hid hx
  have HNC := Lib.hid hnc
  obtain ⟨a, rfl⟩ : ∃ a : Nat, at_ = (a : Int) := ⟨at_.toNat, by have := ht.1; omega⟩
  obtain ⟨j, rfl⟩ : ∃ j : Nat, k = (j : Int) := ⟨k.toNat, by have := ht.2.1; omega⟩
  have HC := Lib.hid (refFill_ok (some ⟨b, o, none⟩) n c s a j (v % 256) xs (((w.alloc (.cells #[.slice (some ⟨b, o, none⟩) n c, .int .i64 s] 33)).alloc (.cells #[.int .u8 kind, .int .i64 (a : Int), .int .i64 from_, .int .i64 (j : Int), .int .u64 v, .slice ba bn bc] 40)).alloc (.cells #[.slice none 0 0, .int .i64 0] 33)) (hx.on bW) hn hm s0 s1 (by have := ht.2.2; omega) (by omega) (by omega))
  have HLN : Hid ((splice xs a (List.replicate j (v % 256))).length = n) := Lib.hid (by rw [length_splice _ _ _ (by rw [hx.len, List.length_replicate]; have := ht.2.2; omega), hx.len])
  clear hx hnc hk hm hn s0 s1
  go_enter Try.func14, Try.ntmps14
  go_wp2_with fail
  refine HC.out.mono ?_
  rintro e w1 ⟨g, cap, rfl, r1, b1, hcap, hg⟩
  have HR := Lib.hid r1
  have HCP := Lib.hid hcap
  have HG := Lib.hid hg
  clear r1 hcap hg
  obtain ⟨q0, q1, q2, q3⟩ := (Z0.below b1).below (below1 w1 (.cells #[.slice (some ⟨g, 0, none⟩) n cap, .int .i64 (s + (j : Int))] 33))
  have B1 := Lib.hid (belowT (belowT bW b1) (below1 w1 (.cells #[.slice (some ⟨g, 0, none⟩) n cap, .int .i64 (s + (j : Int))] 33)))
  have HS : Hid (w.heap.size + 1 + 1 + 1 ≤ w1.heap.size) := Lib.hid (by have := b1.size; simpa using this)
  clear b1 Z0 bW HC
  go_wp2
  refine bodyPost_ret (v := .tuple #[.agg #[.slice (some ⟨g, 0, none⟩) n cap, .int .i64 (s + (j : Int))], (.slice none 0 0), .int .u64 0, .int .i64 0]) (by simp [results, Try.results14, go_sem, q0, q1]) rfl ?_
  have hb := but_two (w1.alloc (.cells #[.slice (some ⟨g, 0, none⟩) n cap, .int .i64 (s + (j : Int))] 33)) (w.heap.size + 1 + 1) (.slice (some ⟨g, 0, none⟩) n cap) (.int .i64 (s + (j : Int)))
  have B2 := B1.out.trans (hb.one B1.out.size (by omega))
  have hs := HS.out
  have hr4 := (HR.out.below (below1 w1 _)).but hb (fun e => by have := HG.out; simp at this; omega)
  exact ⟨g, 0, cap, none, 0, 0, by simp, hr4.all (HLN.out), HCP.out, Bytes.zero _ _ _, B2, Or.inr (by have := HG.out; simp at this; omega), fun h => absurd h (by omega)⟩

theorem refDo2_bad (b o n c : Nat) (s : Int) (xs : List Int) (w : World) (hx : Bytes w w.heap.size (some ⟨b, o, none⟩) n xs) (hnc : n ≤ c) (hm : n ≤ 4194304) (kind at_ from_ k v : Int) (ba : Option Addr) (bn bc : Nat) (hk : 0 ≤ kind ∧ kind ≤ 255) (hr : kind % 6 = 2) (ht : ¬ thereB n at_ k) :
    Calls Try.prog 14 #[.agg #[.slice (some ⟨b, o, none⟩) n c, .int .i64 s], .agg #[.int .u8 kind, .int .i64 at_, .int .i64 from_, .int .i64 k, .int .u64 v, .slice ba bn bc]] w (RefEnds b n s ⟨[], 0, 8, xs, 0⟩ w) := by
  have hr2 : kind.tmod 6 = 2 := by rw [Int.tmod_eq_emod_of_nonneg (by omega)]; exact hr
  have Z0 := rb_three w (.cells #[.slice (some ⟨b, o, none⟩) n c, .int .i64 s] 33) (.cells #[.int .u8 kind, .int .i64 at_, .int .i64 from_, .int .i64 k, .int .u64 v, .slice ba bn bc] 40)
  have bW := below3 w (.cells #[.slice (some ⟨b, o, none⟩) n c, .int .i64 s] 33) (.cells #[.int .u8 kind, .int .i64 at_, .int .i64 from_, .int .i64 k, .int .u64 v, .slice ba bn bc] 40) (.cells #[.slice none 0 0, .int .i64 0] 33)
  have HX := Lib.hid hx
  have HNC := Lib.hid hnc
  have HC := Lib.hid (refFill_bad (some ⟨b, o, none⟩) n c s at_ k (v % 256) (((w.alloc (.cells #[.slice (some ⟨b, o, none⟩) n c, .int .i64 s] 33)).alloc (.cells #[.int .u8 kind, .int .i64 at_, .int .i64 from_, .int .i64 k, .int .u64 v, .slice ba bn bc] 40)).alloc (.cells #[.slice none 0 0, .int .i64 0] 33)) hm ht)
  clear hx hnc hk hm ht
  go_enter Try.func14, Try.ntmps14
  go_wp2_with fail
  refine HC.out.mono ?_
  rintro e w1 ⟨rfl, b1⟩
  obtain ⟨q0, q1, q2, q3⟩ := (Z0.below b1).below (below1 w1 (.cells #[.slice (some ⟨b, o, none⟩) n c, .int .i64 s] 33))
  have B1 := Lib.hid (belowT (belowT bW b1) (below1 w1 (.cells #[.slice (some ⟨b, o, none⟩) n c, .int .i64 s] 33)))
  have HS : Hid (w.heap.size + 1 + 1 + 1 ≤ w1.heap.size) := Lib.hid (by have := b1.size; simpa using this)
  clear b1 Z0 bW HC
  go_wp2
  refine bodyPost_ret (v := .tuple #[.agg #[.slice (some ⟨b, o, none⟩) n c, .int .i64 s], (.slice none 0 0), .int .u64 0, .int .i64 8]) (by simp [results, Try.results14, go_sem, q0, q1]) rfl ?_
  have hb := but_two (w1.alloc (.cells #[.slice (some ⟨b, o, none⟩) n c, .int .i64 s] 33)) (w.heap.size + 1 + 1) (.slice (some ⟨b, o, none⟩) n c) (.int .i64 s)
  have B2 := B1.out.trans (hb.one B1.out.size (by omega))
  exact ⟨b, o, c, none, 0, 0, by simp, HX.out.on B2, HNC.out, Bytes.zero _ _ _, B2, Or.inl rfl, fun h => absurd h (by omega)⟩

theorem refDo3_ok (b o n c : Nat) (s : Int) (xs : List Int) (w : World) (hx : Bytes w w.heap.size (some ⟨b, o, none⟩) n xs) (hnc : n ≤ c) (hm : n ≤ 4194304) (hn : 0 < n) (s0 : 0 ≤ s) (s1 : s ≤ 1000000) (kind at_ from_ k v : Int) (ba : Option Addr) (bn bc : Nat) (hk : 0 ≤ kind ∧ kind ≤ 255) (hr : kind % 6 = 3) (hs : thereB n from_ k) (ht : thereB n at_ k) :
    Calls Try.prog 14 #[.agg #[.slice (some ⟨b, o, none⟩) n c, .int .i64 s], .agg #[.int .u8 kind, .int .i64 at_, .int .i64 from_, .int .i64 k, .int .u64 v, .slice ba bn bc]] w (RefEnds b n s ⟨[], 0, 0, splice xs at_.toNat (sub xs from_.toNat k.toNat), k⟩ w) := by
  have hr2 : kind.tmod 6 = 3 := by rw [Int.tmod_eq_emod_of_nonneg (by omega)]; exact hr
  have Z0 := rb_three w (.cells #[.slice (some ⟨b, o, none⟩) n c, .int .i64 s] 33) (.cells #[.int .u8 kind, .int .i64 at_, .int .i64 from_, .int .i64 k, .int .u64 v, .slice ba bn bc] 40)
  have bW := below3 w (.cells #[.slice (some ⟨b, o, none⟩) n c, .int .i64 s] 33) (.cells #[.int .u8 kind, .int .i64 at_, .int .i64 from_, .int .i64 k, .int .u64 v, .slice ba bn bc] 40) (.cells #[.slice none 0 0, .int .i64 0] 33)
  have HX := Lib.hid hx
  have HNC := Lib.hid hnc
  obtain ⟨a, rfl⟩ : ∃ a : Nat, at_ = (a : Int) := ⟨at_.toNat, by have := ht.1; omega⟩
  obtain ⟨j, rfl⟩ : ∃ j : Nat, k = (j : Int) := ⟨k.toNat, by have := ht.2.1; omega⟩
  obtain ⟨f, rfl⟩ : ∃ f : Nat, from_ = (f : Int) := ⟨from_.toNat, by have := hs.1; omega⟩
  have HC := Lib.hid (refCopy_ok b o n c s a f j xs (((w.alloc (.cells #[.slice (some ⟨b, o, none⟩) n c, .int .i64 s] 33)).alloc (.cells #[.int .u8 kind, .int .i64 (a : Int), .int .i64 (f : Int), .int .i64 (j : Int), .int .u64 v, .slice ba bn bc] 40)).alloc (.cells #[.slice none 0 0, .int .i64 0] 33)) (hx.on bW) hnc hn hm s0 s1 (by have := ht.2.2; omega) (by have := hs.2.2; omega))
  have HLN : Hid ((splice xs a (sub xs f j)).length = n) := Lib.hid (by rw [length_splice _ _ _ (by rw [hx.len, length_sub _ _ _ (by rw [hx.len]; have := hs.2.2; omega)]; have := ht.2.2; omega), hx.len])
  clear hx hnc hk hm hn s0 s1
  go_enter Try.func14, Try.ntmps14
  go_wp2_with fail
  refine HC.out.mono ?_
  rintro e w1 ⟨g, cap, rfl, r1, b1, hcap, hg⟩
  have HR := Lib.hid r1
  have HCP := Lib.hid hcap
  have HG := Lib.hid hg
  clear r1 hcap hg
  obtain ⟨q0, q1, q2, q3⟩ := (Z0.below b1).below (below1 w1 (.cells #[.slice (some ⟨g, 0, none⟩) n cap, .int .i64 (s + (j : Int))] 33))
  have B1 := Lib.hid (belowT (belowT bW b1) (below1 w1 (.cells #[.slice (some ⟨g, 0, none⟩) n cap, .int .i64 (s + (j : Int))] 33)))
  have HS : Hid (w.heap.size + 1 + 1 + 1 ≤ w1.heap.size) := Lib.hid (by have := b1.size; simpa using this)
  clear b1 Z0 bW HC
  go_wp2
  refine bodyPost_ret (v := .tuple #[.agg #[.slice (some ⟨g, 0, none⟩) n cap, .int .i64 (s + (j : Int))], (.slice none 0 0), .int .u64 0, .int .i64 0]) (by simp [results, Try.results14, go_sem, q0, q1]) rfl ?_
  have hb := but_two (w1.alloc (.cells #[.slice (some ⟨g, 0, none⟩) n cap, .int .i64 (s + (j : Int))] 33)) (w.heap.size + 1 + 1) (.slice (some ⟨g, 0, none⟩) n cap) (.int .i64 (s + (j : Int)))
  have B2 := B1.out.trans (hb.one B1.out.size (by omega))
  have hs := HS.out
  have hr4 := (HR.out.below (below1 w1 _)).but hb (fun e => by have := HG.out; simp at this; omega)
  exact ⟨g, 0, cap, none, 0, 0, by simp, hr4.all (HLN.out), HCP.out, Bytes.zero _ _ _, B2, Or.inr (by have := HG.out; simp at this; omega), fun h => absurd h (by omega)⟩

theorem refDo3_bad (b o n c : Nat) (s : Int) (xs : List Int) (w : World) (hx : Bytes w w.heap.size (some ⟨b, o, none⟩) n xs) (hnc : n ≤ c) (hm : n ≤ 4194304) (kind at_ from_ k v : Int) (ba : Option Addr) (bn bc : Nat) (hk : 0 ≤ kind ∧ kind ≤ 255) (hr : kind % 6 = 3) (ht : ¬ (thereB n from_ k ∧ thereB n at_ k)) :
    Calls Try.prog 14 #[.agg #[.slice (some ⟨b, o, none⟩) n c, .int .i64 s], .agg #[.int .u8 kind, .int .i64 at_, .int .i64 from_, .int .i64 k, .int .u64 v, .slice ba bn bc]] w (RefEnds b n s ⟨[], 0, 8, xs, 0⟩ w) := by
  have hr2 : kind.tmod 6 = 3 := by rw [Int.tmod_eq_emod_of_nonneg (by omega)]; exact hr
  have Z0 := rb_three w (.cells #[.slice (some ⟨b, o, none⟩) n c, .int .i64 s] 33) (.cells #[.int .u8 kind, .int .i64 at_, .int .i64 from_, .int .i64 k, .int .u64 v, .slice ba bn bc] 40)
  have bW := below3 w (.cells #[.slice (some ⟨b, o, none⟩) n c, .int .i64 s] 33) (.cells #[.int .u8 kind, .int .i64 at_, .int .i64 from_, .int .i64 k, .int .u64 v, .slice ba bn bc] 40) (.cells #[.slice none 0 0, .int .i64 0] 33)
  have HX := Lib.hid hx
  have HNC := Lib.hid hnc
  have HC := Lib.hid (refCopy_bad (some ⟨b, o, none⟩) n c s at_ from_ k (((w.alloc (.cells #[.slice (some ⟨b, o, none⟩) n c, .int .i64 s] 33)).alloc (.cells #[.int .u8 kind, .int .i64 at_, .int .i64 from_, .int .i64 k, .int .u64 v, .slice ba bn bc] 40)).alloc (.cells #[.slice none 0 0, .int .i64 0] 33)) hm ht)
  clear hx hnc hk hm ht
  go_enter Try.func14, Try.ntmps14
  go_wp2_with fail
  refine HC.out.mono ?_
  rintro e w1 ⟨rfl, b1⟩
  obtain ⟨q0, q1, q2, q3⟩ := (Z0.below b1).below (below1 w1 (.cells #[.slice (some ⟨b, o, none⟩) n c, .int .i64 s] 33))
  have B1 := Lib.hid (belowT (belowT bW b1) (below1 w1 (.cells #[.slice (some ⟨b, o, none⟩) n c, .int .i64 s] 33)))
  have HS : Hid (w.heap.size + 1 + 1 + 1 ≤ w1.heap.size) := Lib.hid (by have := b1.size; simpa using this)
  clear b1 Z0 bW HC
  go_wp2
  refine bodyPost_ret (v := .tuple #[.agg #[.slice (some ⟨b, o, none⟩) n c, .int .i64 s], (.slice none 0 0), .int .u64 0, .int .i64 8]) (by simp [results, Try.results14, go_sem, q0, q1]) rfl ?_
  have hb := but_two (w1.alloc (.cells #[.slice (some ⟨b, o, none⟩) n c, .int .i64 s] 33)) (w.heap.size + 1 + 1) (.slice (some ⟨b, o, none⟩) n c) (.int .i64 s)
  have B2 := B1.out.trans (hb.one B1.out.size (by omega))
  exact ⟨b, o, c, none, 0, 0, by simp, HX.out.on B2, HNC.out, Bytes.zero _ _ _, B2, Or.inl rfl, fun h => absurd h (by omega)⟩

theorem refDo4_ok (b o n c : Nat) (s : Int) (xs : List Int) (w : World) (hx : Bytes w w.heap.size (some ⟨b, o, none⟩) n xs) (hnc : n ≤ c) (hm : n ≤ 4194304) (s0 : 0 ≤ s) (s1 : s ≤ 1000000) (kind at_ from_ k v : Int) (ba : Option Addr) (bn bc : Nat) (hk : 0 ≤ kind ∧ kind ≤ 255) (hr : kind % 6 = 4) (hz : wordErr n at_ = 0) :
    Calls Try.prog 14 #[.agg #[.slice (some ⟨b, o, none⟩) n c, .int .i64 s], .agg #[.int .u8 kind, .int .i64 at_, .int .i64 from_, .int .i64 k, .int .u64 v, .slice ba bn bc]] w (RefEnds b n s ⟨[], wordOf (sub xs at_.toNat 8), 0, xs, 1⟩ w) := by
  have hr2 : kind.tmod 6 = 4 := by rw [Int.tmod_eq_emod_of_nonneg (by omega)]; exact hr
  have Z0 := rb_three w (.cells #[.slice (some ⟨b, o, none⟩) n c, .int .i64 s] 33) (.cells #[.int .u8 kind, .int .i64 at_, .int .i64 from_, .int .i64 k, .int .u64 v, .slice ba bn bc] 40)
  have bW := below3 w (.cells #[.slice (some ⟨b, o, none⟩) n c, .int .i64 s] 33) (.cells #[.int .u8 kind, .int .i64 at_, .int .i64 from_, .int .i64 k, .int .u64 v, .slice ba bn bc] 40) (.cells #[.slice none 0 0, .int .i64 0] 33)
  have HX := Lib.hid hx
  have HNC := Lib.hid hnc
  obtain ⟨ht, h8⟩ := wordErr_zero hz
  obtain ⟨a, rfl⟩ : ∃ a : Nat, at_ = (a : Int) := ⟨at_.toNat, by have := ht.1; omega⟩
  have HC := Lib.hid (refLoad_ok b o n c a s xs (((w.alloc (.cells #[.slice (some ⟨b, o, none⟩) n c, .int .i64 s] 33)).alloc (.cells #[.int .u8 kind, .int .i64 (a : Int), .int .i64 from_, .int .i64 k, .int .u64 v, .slice ba bn bc] 40)).alloc (.cells #[.slice none 0 0, .int .i64 0] 33)) (hx.on bW) hm s0 s1 (by have := ht.2.2; omega) (by omega))
  rw [Int.toNat_natCast]
  generalize wordOf (sub xs a 8) = V at HC ⊢
  clear hx hnc hk hm s0 s1 hz ht h8
  go_enter Try.func14, Try.ntmps14
  go_wp2_with fail
  refine HC.out.mono ?_
  rintro e w1 ⟨rfl, b1⟩
  obtain ⟨q0, q1, q2, q3⟩ := (Z0.below b1).below (below1 w1 (.cells #[.slice (some ⟨b, o, none⟩) n c, .int .i64 (s + 1)] 33))
  have B1 := Lib.hid (belowT (belowT bW b1) (below1 w1 (.cells #[.slice (some ⟨b, o, none⟩) n c, .int .i64 (s + 1)] 33)))
  have HS : Hid (w.heap.size + 1 + 1 + 1 ≤ w1.heap.size) := Lib.hid (by have := b1.size; simpa using this)
  clear b1 Z0 bW HC
  go_wp2
  refine bodyPost_ret (v := .tuple #[.agg #[.slice (some ⟨b, o, none⟩) n c, .int .i64 (s + 1)], (.slice none 0 0), .int .u64 V, .int .i64 0]) (by simp [results, Try.results14, go_sem, q0, q1]) rfl ?_
  have hb := but_two (w1.alloc (.cells #[.slice (some ⟨b, o, none⟩) n c, .int .i64 (s + 1)] 33)) (w.heap.size + 1 + 1) (.slice (some ⟨b, o, none⟩) n c) (.int .i64 (s + 1))
  have B2 := B1.out.trans (hb.one B1.out.size (by omega))
  exact ⟨b, o, c, none, 0, 0, rfl, HX.out.on B2, HNC.out, Bytes.zero _ _ _, B2, Or.inl rfl, fun h => absurd h (by omega)⟩

theorem refDo4_bad (b o n c : Nat) (s : Int) (xs : List Int) (w : World) (hx : Bytes w w.heap.size (some ⟨b, o, none⟩) n xs) (hnc : n ≤ c) (hm : n ≤ 4194304) (kind at_ from_ k v : Int) (ba : Option Addr) (bn bc : Nat) (hk : 0 ≤ kind ∧ kind ≤ 255) (hr : kind % 6 = 4) (hz : wordErr n at_ ≠ 0) :
    Calls Try.prog 14 #[.agg #[.slice (some ⟨b, o, none⟩) n c, .int .i64 s], .agg #[.int .u8 kind, .int .i64 at_, .int .i64 from_, .int .i64 k, .int .u64 v, .slice ba bn bc]] w (RefEnds b n s ⟨[], 0, wordErr n at_, xs, 0⟩ w) := by
  have hr2 : kind.tmod 6 = 4 := by rw [Int.tmod_eq_emod_of_nonneg (by omega)]; exact hr
  have Z0 := rb_three w (.cells #[.slice (some ⟨b, o, none⟩) n c, .int .i64 s] 33) (.cells #[.int .u8 kind, .int .i64 at_, .int .i64 from_, .int .i64 k, .int .u64 v, .slice ba bn bc] 40)
  have bW := below3 w (.cells #[.slice (some ⟨b, o, none⟩) n c, .int .i64 s] 33) (.cells #[.int .u8 kind, .int .i64 at_, .int .i64 from_, .int .i64 k, .int .u64 v, .slice ba bn bc] 40) (.cells #[.slice none 0 0, .int .i64 0] 33)
  have HX := Lib.hid hx
  have HNC := Lib.hid hnc
  have HC := Lib.hid (refLoad_bad (some ⟨b, o, none⟩) n c s at_ (((w.alloc (.cells #[.slice (some ⟨b, o, none⟩) n c, .int .i64 s] 33)).alloc (.cells #[.int .u8 kind, .int .i64 at_, .int .i64 from_, .int .i64 k, .int .u64 v, .slice ba bn bc] 40)).alloc (.cells #[.slice none 0 0, .int .i64 0] 33)) hm hz)
  generalize wordErr n at_ = q at HC hz ⊢
  clear hx hnc hk hm hz
  go_enter Try.func14, Try.ntmps14
  go_wp2_with fail
  refine HC.out.mono ?_
  rintro e w1 ⟨rfl, b1⟩
  obtain ⟨q0, q1, q2, q3⟩ := (Z0.below b1).below (below1 w1 (.cells #[.slice (some ⟨b, o, none⟩) n c, .int .i64 s] 33))
  have B1 := Lib.hid (belowT (belowT bW b1) (below1 w1 (.cells #[.slice (some ⟨b, o, none⟩) n c, .int .i64 s] 33)))
  have HS : Hid (w.heap.size + 1 + 1 + 1 ≤ w1.heap.size) := Lib.hid (by have := b1.size; simpa using this)
  clear b1 Z0 bW HC
  go_wp2
  refine bodyPost_ret (v := .tuple #[.agg #[.slice (some ⟨b, o, none⟩) n c, .int .i64 s], (.slice none 0 0), .int .u64 0, .int .i64 q]) (by simp [results, Try.results14, go_sem, q0, q1]) rfl ?_
  have hb := but_two (w1.alloc (.cells #[.slice (some ⟨b, o, none⟩) n c, .int .i64 s] 33)) (w.heap.size + 1 + 1) (.slice (some ⟨b, o, none⟩) n c) (.int .i64 s)
  have B2 := B1.out.trans (hb.one B1.out.size (by omega))
  exact ⟨b, o, c, none, 0, 0, by simp, HX.out.on B2, HNC.out, Bytes.zero _ _ _, B2, Or.inl rfl, fun h => absurd h (by omega)⟩

theorem refDo5_ok (b o n c : Nat) (s : Int) (xs : List Int) (w : World) (hx : Bytes w w.heap.size (some ⟨b, o, none⟩) n xs) (hnc : n ≤ c) (hm : n ≤ 4194304) (hn : 0 < n) (s0 : 0 ≤ s) (s1 : s ≤ 1000000) (kind at_ from_ k v : Int) (ba : Option Addr) (bn bc : Nat) (hk : 0 ≤ kind ∧ kind ≤ 255) (hr : kind % 6 = 5) (v0 : 0 ≤ v) (v1 : v ≤ 18446744073709551615) (hz : wordErr n at_ = 0) :
    Calls Try.prog 14 #[.agg #[.slice (some ⟨b, o, none⟩) n c, .int .i64 s], .agg #[.int .u8 kind, .int .i64 at_, .int .i64 from_, .int .i64 k, .int .u64 v, .slice ba bn bc]] w (RefEnds b n s ⟨[], 0, 0, splice xs at_.toNat (bytesOf 8 v), 1⟩ w) := by
  have hr2 : kind.tmod 6 = 5 := by rw [Int.tmod_eq_emod_of_nonneg (by omega)]; exact hr
  have Z0 := rb_three w (.cells #[.slice (some ⟨b, o, none⟩) n c, .int .i64 s] 33) (.cells #[.int .u8 kind, .int .i64 at_, .int .i64 from_, .int .i64 k, .int .u64 v, .slice ba bn bc] 40)
  have bW := below3 w (.cells #[.slice (some ⟨b, o, none⟩) n c, .int .i64 s] 33) (.cells #[.int .u8 kind, .int .i64 at_, .int .i64 from_, .int .i64 k, .int .u64 v, .slice ba bn bc] 40) (.cells #[.slice none 0 0, .int .i64 0] 33)
  have HX := Lib.hid hx
  have HNC := Lib.hid hnc
  obtain ⟨ht, h8⟩ := wordErr_zero hz
  obtain ⟨a, rfl⟩ : ∃ a : Nat, at_ = (a : Int) := ⟨at_.toNat, by have := ht.1; omega⟩
  have HC := Lib.hid (refStore_ok (some ⟨b, o, none⟩) n c a s v xs (((w.alloc (.cells #[.slice (some ⟨b, o, none⟩) n c, .int .i64 s] 33)).alloc (.cells #[.int .u8 kind, .int .i64 (a : Int), .int .i64 from_, .int .i64 k, .int .u64 v, .slice ba bn bc] 40)).alloc (.cells #[.slice none 0 0, .int .i64 0] 33)) (hx.on bW) hn hm s0 s1 (by have := ht.2.2; omega) (by omega) v0 v1)
  have HLN : Hid ((splice xs a (bytesOf 8 v)).length = n) := Lib.hid (by rw [length_splice _ _ _ (by rw [hx.len, length_bytesOf]; have := ht.2.2; omega), hx.len])
  clear hx hnc hk hm hn s0 s1
  go_enter Try.func14, Try.ntmps14
  go_wp2_with fail
  refine HC.out.mono ?_
  rintro e w1 ⟨g, cap, rfl, r1, b1, hcap, hg⟩
  have HR := Lib.hid r1
  have HCP := Lib.hid hcap
  have HG := Lib.hid hg
  clear r1 hcap hg
  obtain ⟨q0, q1, q2, q3⟩ := (Z0.below b1).below (below1 w1 (.cells #[.slice (some ⟨g, 0, none⟩) n cap, .int .i64 (s + 1)] 33))
  have B1 := Lib.hid (belowT (belowT bW b1) (below1 w1 (.cells #[.slice (some ⟨g, 0, none⟩) n cap, .int .i64 (s + 1)] 33)))
  have HS : Hid (w.heap.size + 1 + 1 + 1 ≤ w1.heap.size) := Lib.hid (by have := b1.size; simpa using this)
  clear b1 Z0 bW HC
  go_wp2
  refine bodyPost_ret (v := .tuple #[.agg #[.slice (some ⟨g, 0, none⟩) n cap, .int .i64 (s + 1)], (.slice none 0 0), .int .u64 0, .int .i64 0]) (by simp [results, Try.results14, go_sem, q0, q1]) rfl ?_
  have hb := but_two (w1.alloc (.cells #[.slice (some ⟨g, 0, none⟩) n cap, .int .i64 (s + 1)] 33)) (w.heap.size + 1 + 1) (.slice (some ⟨g, 0, none⟩) n cap) (.int .i64 (s + 1))
  have B2 := B1.out.trans (hb.one B1.out.size (by omega))
  have hs := HS.out
  have hr4 := (HR.out.below (below1 w1 _)).but hb (fun e => by have := HG.out; simp at this; omega)
  exact ⟨g, 0, cap, none, 0, 0, by simp, hr4.all (HLN.out), HCP.out, Bytes.zero _ _ _, B2, Or.inr (by have := HG.out; simp at this; omega), fun h => absurd h (by omega)⟩

theorem refDo5_bad (b o n c : Nat) (s : Int) (xs : List Int) (w : World) (hx : Bytes w w.heap.size (some ⟨b, o, none⟩) n xs) (hnc : n ≤ c) (hm : n ≤ 4194304) (kind at_ from_ k v : Int) (ba : Option Addr) (bn bc : Nat) (hk : 0 ≤ kind ∧ kind ≤ 255) (hr : kind % 6 = 5) (hz : wordErr n at_ ≠ 0) :
    Calls Try.prog 14 #[.agg #[.slice (some ⟨b, o, none⟩) n c, .int .i64 s], .agg #[.int .u8 kind, .int .i64 at_, .int .i64 from_, .int .i64 k, .int .u64 v, .slice ba bn bc]] w (RefEnds b n s ⟨[], 0, wordErr n at_, xs, 0⟩ w) := by
  have hr2 : kind.tmod 6 = 5 := by rw [Int.tmod_eq_emod_of_nonneg (by omega)]; exact hr
  have Z0 := rb_three w (.cells #[.slice (some ⟨b, o, none⟩) n c, .int .i64 s] 33) (.cells #[.int .u8 kind, .int .i64 at_, .int .i64 from_, .int .i64 k, .int .u64 v, .slice ba bn bc] 40)
  have bW := below3 w (.cells #[.slice (some ⟨b, o, none⟩) n c, .int .i64 s] 33) (.cells #[.int .u8 kind, .int .i64 at_, .int .i64 from_, .int .i64 k, .int .u64 v, .slice ba bn bc] 40) (.cells #[.slice none 0 0, .int .i64 0] 33)
  have HX := Lib.hid hx
  have HNC := Lib.hid hnc
  have HC := Lib.hid (refStore_bad (some ⟨b, o, none⟩) n c s at_ v (((w.alloc (.cells #[.slice (some ⟨b, o, none⟩) n c, .int .i64 s] 33)).alloc (.cells #[.int .u8 kind, .int .i64 at_, .int .i64 from_, .int .i64 k, .int .u64 v, .slice ba bn bc] 40)).alloc (.cells #[.slice none 0 0, .int .i64 0] 33)) hm hz)
  generalize wordErr n at_ = q at HC hz ⊢
  clear hx hnc hk hm hz
  go_enter Try.func14, Try.ntmps14
  go_wp2_with fail
  refine HC.out.mono ?_
  rintro e w1 ⟨rfl, b1⟩
  obtain ⟨q0, q1, q2, q3⟩ := (Z0.below b1).below (below1 w1 (.cells #[.slice (some ⟨b, o, none⟩) n c, .int .i64 s] 33))
  have B1 := Lib.hid (belowT (belowT bW b1) (below1 w1 (.cells #[.slice (some ⟨b, o, none⟩) n c, .int .i64 s] 33)))
  have HS : Hid (w.heap.size + 1 + 1 + 1 ≤ w1.heap.size) := Lib.hid (by have := b1.size; simpa using this)
  clear b1 Z0 bW HC
  go_wp2
  refine bodyPost_ret (v := .tuple #[.agg #[.slice (some ⟨b, o, none⟩) n c, .int .i64 s], (.slice none 0 0), .int .u64 0, .int .i64 q]) (by simp [results, Try.results14, go_sem, q0, q1]) rfl ?_
  have hb := but_two (w1.alloc (.cells #[.slice (some ⟨b, o, none⟩) n c, .int .i64 s] 33)) (w.heap.size + 1 + 1) (.slice (some ⟨b, o, none⟩) n c) (.int .i64 s)
  have B2 := B1.out.trans (hb.one B1.out.size (by omega))
  exact ⟨b, o, c, none, 0, 0, by simp, HX.out.on B2, HNC.out, Bytes.zero _ _ _, B2, Or.inl rfl, fun h => absurd h (by omega)⟩


theorem refDo_any (b o n c : Nat) (s : Int) (xs : List Int) (w : World) (hx : Bytes w w.heap.size (some ⟨b, o, none⟩) n xs) (hnc : n ≤ c) (hn : 0 < n) (hm : n ≤ 4194304) (s0 : 0 ≤ s) (s1 : s ≤ 1000000) (u : Us) (hu : u.Ok w w.heap.size) :
    Calls Try.prog 14 #[.agg #[.slice (some ⟨b, o, none⟩) n c, .int .i64 s], .agg #[.int .u8 u.kind, .int .i64 u.at_, .int .i64 u.from_, .int .i64 u.n, .int .u64 u.v, .slice u.ba u.bn u.bc]] w (RefEnds b n s (useOut u xs) w) := by
  obtain ⟨kind, at_, from_, k, v, ba, bn, bc, bs⟩ := u
  obtain ⟨hk, ha, hf, hkk, hv, hy, hc⟩ := hu
  simp only at hk ha hf hkk hv hy hc ⊢
  have hl := hx.len
  have h6 : kind % 6 = 0 ∨ kind % 6 = 1 ∨ kind % 6 = 2 ∨ kind % 6 = 3 ∨ kind % 6 = 4 ∨ kind % 6 = 5 := by omega
  rcases h6 with hr | hr | hr | hr | hr | hr
  · by_cases ht : thereB n at_ k
    · rw [show useOut ⟨kind, at_, from_, k, v, ba, bn, bc, bs⟩ xs = ⟨sub xs at_.toNat k.toNat, 0, 0, xs, k⟩ by simp [useOut, hr, hl, ht]]
      exact refDo0_ok b o n c s xs w hx hnc hm s0 s1 kind at_ from_ k v ba bn bc hk hr ht
    · rw [show useOut ⟨kind, at_, from_, k, v, ba, bn, bc, bs⟩ xs = ⟨[], 0, 8, xs, 0⟩ by simp [useOut, hr, hl, ht]]
      exact refDo0_bad b o n c s xs w hx hnc hm kind at_ from_ k v ba bn bc hk hr ht
  · by_cases ht : thereB n at_ bn
    · rw [show useOut ⟨kind, at_, from_, k, v, ba, bn, bc, bs⟩ xs = ⟨[], 0, 0, splice xs at_.toNat bs, bn⟩ by simp [useOut, hr, hl, ht]]
      exact refDo1_ok b o n c s xs w hx hnc hm hn s0 s1 kind at_ from_ k v ba bn bc hk hr bs hy ht
    · rw [show useOut ⟨kind, at_, from_, k, v, ba, bn, bc, bs⟩ xs = ⟨[], 0, 8, xs, 0⟩ by simp [useOut, hr, hl, ht]]
      exact refDo1_bad b o n c s xs w hx hnc hm kind at_ from_ k v ba bn bc hk hr hy.max ht
  · by_cases ht : thereB n at_ k
    · rw [show useOut ⟨kind, at_, from_, k, v, ba, bn, bc, bs⟩ xs = ⟨[], 0, 0, splice xs at_.toNat (List.replicate k.toNat (v % 256)), k⟩ by simp [useOut, hr, hl, ht]]
      exact refDo2_ok b o n c s xs w hx hnc hm hn s0 s1 kind at_ from_ k v ba bn bc hk hr ht
    · rw [show useOut ⟨kind, at_, from_, k, v, ba, bn, bc, bs⟩ xs = ⟨[], 0, 8, xs, 0⟩ by simp [useOut, hr, hl, ht]]
      exact refDo2_bad b o n c s xs w hx hnc hm kind at_ from_ k v ba bn bc hk hr ht
  · by_cases ht : thereB n from_ k ∧ thereB n at_ k
    · rw [show useOut ⟨kind, at_, from_, k, v, ba, bn, bc, bs⟩ xs = ⟨[], 0, 0, splice xs at_.toNat (sub xs from_.toNat k.toNat), k⟩ by simp [useOut, hr, hl, ht]]
      exact refDo3_ok b o n c s xs w hx hnc hm hn s0 s1 kind at_ from_ k v ba bn bc hk hr ht.1 ht.2
    · rw [show useOut ⟨kind, at_, from_, k, v, ba, bn, bc, bs⟩ xs = ⟨[], 0, 8, xs, 0⟩ by simp only [useOut, hr, hl, if_neg ht]; simp]
      exact refDo3_bad b o n c s xs w hx hnc hm kind at_ from_ k v ba bn bc hk hr ht
  · by_cases hz : wordErr n at_ = 0
    · rw [show useOut ⟨kind, at_, from_, k, v, ba, bn, bc, bs⟩ xs = ⟨[], wordOf (sub xs at_.toNat 8), 0, xs, 1⟩ by simp [useOut, hr, hl, hz]]
      exact refDo4_ok b o n c s xs w hx hnc hm s0 s1 kind at_ from_ k v ba bn bc hk hr hz
    · rw [show useOut ⟨kind, at_, from_, k, v, ba, bn, bc, bs⟩ xs = ⟨[], 0, wordErr n at_, xs, 0⟩ by simp [useOut, hr, hl, hz]]
      exact refDo4_bad b o n c s xs w hx hnc hm kind at_ from_ k v ba bn bc hk hr hz
  · by_cases hz : wordErr n at_ = 0
    · rw [show useOut ⟨kind, at_, from_, k, v, ba, bn, bc, bs⟩ xs = ⟨[], 0, 0, splice xs at_.toNat (bytesOf 8 v), 1⟩ by simp [useOut, hr, hl, hz]]
      exact refDo5_ok b o n c s xs w hx hnc hm hn s0 s1 kind at_ from_ k v ba bn bc hk hr hv.1 hv.2 hz
    · rw [show useOut ⟨kind, at_, from_, k, v, ba, bn, bc, bs⟩ xs = ⟨[], 0, wordErr n at_, xs, 0⟩ by simp [useOut, hr, hl, hz]]
      exact refDo5_bad b o n c s xs w hx hnc hm kind at_ from_ k v ba bn bc hk hr hz
end Go.Proofs.Ytnopeifgcpibaaa
