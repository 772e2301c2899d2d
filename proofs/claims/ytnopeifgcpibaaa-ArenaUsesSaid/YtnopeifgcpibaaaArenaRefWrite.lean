/-
  The document's own answers for package arena (almeryref06): Write, Fill.
-/
import Derived.Test.YtnopeifgcpibaaaArenaRefLay
namespace Go.Proofs.Ytnopeifgcpibaaa
open Go.ChangeShapes Go.WideShapes Go.ChangeAt Go.RowKit

/-- How one that lays something ends. -/
def Lays (n : Nat) (s : Int) (xs : List Int) (w : World) (e : Ending) (w' : World) : Prop :=
  ∃ g cap, e = .returned (.tuple #[.agg #[.slice (some ⟨g, 0, none⟩) n cap, .int .i64 s], .int .i64 0]) ∧ Row w' g xs ∧ Below w.heap.size w w' ∧ n ≤ cap ∧ w.heap.size ≤ g

theorem refWrite_bad (a : Option Addr) (n c : Nat) (s at_ : Int) (ya : Option Addr) (yn yc : Nat) (w : World) (hn : n ≤ 4194304) (_hy : yn ≤ 9223372036854775807) (ht : ¬ thereB n at_ yn) :
    Calls Try.prog 27 #[.agg #[.slice a n c, .int .i64 s], .int .i64 at_, .slice ya yn yc] w fun e w' => e = .returned (.tuple #[.agg #[.slice a n c, .int .i64 s], .int .i64 8]) ∧ Below w.heap.size w w' := by
  have HT : Hid (decide (thereB n at_ (yn : Int)) = false) := Lib.hid (by simpa using ht)
  clear ht
  go_enter Try.func27, Try.ntmps27
  go_wp2_with fail
  refine (refThere_any a n c s at_ yn _ hn).mono ?_
  rw [HT.out]
  rintro e w1 ⟨rfl, rfl⟩
  go_wp2
  refine bodyPost_ret (v := .tuple #[.agg #[.slice a n c, .int .i64 s], .int .i64 8]) (by simp [results, Try.results27, go_sem]) rfl ?_
  exact ⟨rfl, below3 w _ _ _⟩

theorem refWrite_ok (a : Option Addr) (n c : Nat) (s : Int) (at_ : Nat) (ya : Option Addr) (yn yc : Nat) (xs ys : List Int) (w : World) (hx : Bytes w w.heap.size a n xs) (hy : Bytes w w.heap.size ya yn ys) (hn : 0 < n) (hm : n ≤ 4194304) (s0 : 0 ≤ s) (s1 : s ≤ 1000000) (hf : at_ + yn ≤ n) :
    Calls Try.prog 27 #[.agg #[.slice a n c, .int .i64 s], .int .i64 (at_ : Int), .slice ya yn yc] w (Lays n (s + yn) (splice xs at_ ys) w) := by
  have HT : Hid (decide (thereB n (at_ : Int) (yn : Int)) = true) := Lib.hid (by rw [decide_eq_true_iff]; exact ⟨by omega, by omega, by omega⟩)
  have hw1 : IntKind.i64.wrap (s + (yn : Int)) = s + (yn : Int) := IntWalk.i64_in _ (by omega)
  have hmax := hy.max
  have HX := Lib.hid hx
  have HY := Lib.hid hy
  have HF := Lib.hid hf
  clear hx hy hf s0 s1
  go_enter Try.func27, Try.ntmps27
  go_wp2_with fail
  refine (refThere_any a n c s at_ yn _ hm).mono ?_
  rw [HT.out]
  rintro e w1 ⟨rfl, rfl⟩
  go_wp2_with fail
  refine (refLay_any a n c (s + yn) at_ ya yn yc xs ys _ (HX.out.on (below3 w _ _ _)) (HY.out.on (below3 w _ _ _)) hn hm HF.out).mono ?_
  rintro e w5 ⟨g, cap, rfl, r5, b5, hcap, hg⟩
  have Z : RB (((w.alloc (.cells #[.slice a n c, .int .i64 (s + (yn : Int))] 33)).alloc (.cells #[.slice none 0 0, .int .i64 0] 33)).alloc (.cells #[.slice a n c, .int .i64 s] 33)) (w.heap.size + 1) none 0 0 0 := by
    have := (RB.new (w.alloc (.cells #[.slice a n c, .int .i64 (s + (yn : Int))] 33)) none 0 0 0).below (below1 _ (.cells #[.slice a n c, .int .i64 s] 33))
    simpa using this
  obtain ⟨q0, q1, q2, q3⟩ := Z.below b5
  have R5 := Lib.hid r5
  have B5 := Lib.hid (belowT (below3 w _ _ _) b5)
  have HC := Lib.hid hcap
  have HG := Lib.hid hg
  clear Z r5 b5 hcap hg
  go_wp2
  refine bodyPost_ret (v := .tuple #[.agg #[.slice (some ⟨g, 0, none⟩) n cap, .int .i64 (s + yn)], .int .i64 0]) (by simp [results, Try.results27, go_sem, q0, q1]) rfl ?_
  have hb := but_two w5 (w.heap.size + 1) (.slice (some ⟨g, 0, none⟩) n cap) (.int .i64 (s + yn))
  have hG := HG.out
  simp at hG
  exact ⟨g, cap, rfl, R5.out.but hb (fun e => by omega), B5.out.trans (hb.one B5.out.size (by omega)), HC.out, by omega⟩

theorem refFill_bad (a : Option Addr) (n c : Nat) (s at_ k v : Int) (w : World) (hn : n ≤ 4194304) (ht : ¬ thereB n at_ k) :
    Calls Try.prog 28 #[.agg #[.slice a n c, .int .i64 s], .int .i64 at_, .int .i64 k, .int .u8 v] w fun e w' => e = .returned (.tuple #[.agg #[.slice a n c, .int .i64 s], .int .i64 8]) ∧ Below w.heap.size w w' := by
  have HT : Hid (decide (thereB n at_ k) = false) := Lib.hid (by simpa using ht)
  clear ht
  go_enter Try.func28, Try.ntmps28
  go_wp2_with fail
  refine (refThere_any a n c s at_ k _ hn).mono ?_
  rw [HT.out]
  rintro e w1 ⟨rfl, rfl⟩
  go_wp2
  refine bodyPost_ret (v := .tuple #[.agg #[.slice a n c, .int .i64 s], .int .i64 8]) (by simp [results, Try.results28, go_sem]) rfl ?_
  exact ⟨rfl, below3 w _ _ _⟩

theorem refFill_ok (a : Option Addr) (n c : Nat) (s : Int) (at_ k : Nat) (v : Int) (xs : List Int) (w : World) (hx : Bytes w w.heap.size a n xs) (hn : 0 < n) (hm : n ≤ 4194304) (s0 : 0 ≤ s) (s1 : s ≤ 1000000) (hf : at_ + k ≤ n) (v0 : 0 ≤ v) (v1 : v ≤ 255) :
    Calls Try.prog 28 #[.agg #[.slice a n c, .int .i64 s], .int .i64 (at_ : Int), .int .i64 (k : Int), .int .u8 v] w (Lays n (s + k) (splice xs at_ (List.replicate k v)) w) := by
  have HT : Hid (decide (thereB n (at_ : Int) (k : Int)) = true) := Lib.hid (by rw [decide_eq_true_iff]; exact ⟨by omega, by omega, by omega⟩)
  have hmk : ∀ v, (Instr.makeSlice 31 (.int .i64 (k : Int)) (.int .i64 (k : Int))).run Try.prog v = .ok (.slice (some ⟨v.heap.size, 0, none⟩) k k) (v.alloc (zeros k)) := make_run k (by omega)
  obtain ⟨W, hW⟩ : ∃ W : World, W = (((w.alloc (.cells #[.slice a n c, .int .i64 s] 33)).alloc (.cells #[.slice none 0 0, .int .i64 0] 33)).alloc (.cells #[.slice a n c, .int .i64 s] 33)) := ⟨_, rfl⟩
  have bW : Below w.heap.size w W := by rw [hW]; exact below3 w _ _ _
  have sW : W.heap.size = w.heap.size + 3 := by rw [hW]; simp
  have X0 : RB W w.heap.size a n c s := by rw [hW]; exact (RB.new w a n c s).below (below2 _ _ _)
  have Z0 : RB W (w.heap.size + 1) none 0 0 0 := by
    rw [hW]
    have := (RB.new (w.alloc (.cells #[.slice a n c, .int .i64 s] 33)) none 0 0 0).below (below1 _ (.cells #[.slice a n c, .int .i64 s] 33))
    simpa using this
  have X1 := Lib.hid (X0.below (below1 W (zeros k)))
  have Z1 := Lib.hid (Z0.below (below1 W (zeros k)))
  have HX := Lib.hid (hx.below bW)
  have HB := Lib.hid bW
  have HW := Lib.hid hW
  have HS := Lib.hid sW
  have F0 : Hid (LaidTo (List.replicate k 0) (List.replicate k v) 0 W.heap.size (W.alloc (zeros k)) 0 (W.alloc (zeros k))) := Lib.hid ⟨by rw [List.take_zero, splice_nil _ _ (by omega)]; exact zeros_row W k (by omega), But.refl _ _⟩
  have HF := Lib.hid hf
  have hkm : k ≤ 4194304 := by omega
  clear X0 Z0 hx bW sW hW hf
  go_enter Try.func28, Try.ntmps28
  go_wp2_with fail
  refine (refThere_any a n c s at_ k _ hm).mono ?_
  rw [HT.out, ← HW.out]
  rintro e w1 ⟨rfl, rfl⟩
  go_wp2
  go_loopw [11] (fun i wr => ∃ j : Nat, j ≤ k ∧ i = .int .i64 j ∧ LaidTo (List.replicate k 0) (List.replicate k v) 0 w1.heap.size (w1.alloc (zeros k)) j wr) (fun i _ => k - (intOf i).toNat)
  case atStart => exact ⟨0, by omega, rfl, F0.out⟩
  case round =>
    obtain ⟨j, hj, rfl, hr⟩ := hrel
    by_cases hlt : j < k
    · have dk : decide ((j : Int) < (k : Int)) = true := by simp; omega
      have hl : 0 + (List.replicate k v).length ≤ (List.replicate k (0 : Int)).length := by simp
      have hy : (List.replicate k v)[j]? = some v := by rw [List.getElem?_replicate, if_pos hlt]
      have hcx := hr.row.cell j _ (List.getElem?_eq_getElem (by rw [hr.length hl, List.length_replicate]; exact hlt))
      have hfx := hr.row.free j (by rw [hr.length hl, List.length_replicate]; exact hlt)
      generalize (splice (List.replicate k (0 : Int)) 0 ((List.replicate k v).take j))[j]'(by rw [hr.length hl, List.length_replicate]; exact hlt) = z at hcx
      have HR := Lib.hid (hr.next hl hy ⟨v0, v1⟩)
      rw [Nat.zero_add] at HR
      clear hr hl hy
      go_wp2
      exact ⟨⟨j + 1, by omega, by simp, HR.out⟩, by simp [intOf]; omega⟩
    · have dk : decide ((j : Int) < (k : Int)) = false := by simp; omega
      obtain rfl : j = k := by omega
      have hR := hr.row
      rw [List.take_of_length_le (by simp), splice_whole (by simp)] at hR
      have hb := hr.but
      obtain ⟨p0, p1, p2, p3⟩ := X1.out.but hb (fun e => by have := HS.out; omega)
      have Z2 := Lib.hid (Z1.out.but hb (fun e => by have := HS.out; omega))
      have B2 : Hid (Below w1.heap.size w1 wr) := Lib.hid ((below1 w1 _).trans (hb.one (by simp) (Nat.le_refl _)))
      have Y2 := Lib.hid (hR.bytes (at_ := 0) (o := 0) (k := j) (by simp) (fun _ => rfl))
      rw [show sub (List.replicate j v) 0 j = List.replicate j v by have := sub_all (List.replicate j v); rwa [List.length_replicate] at this] at Y2
      have X2 := Lib.hid ((HX.out.below (B2.out.mono HB.out.size)).more (Nat.le_trans HB.out.size B2.out.size))
      clear hr hR hb
      go_wp2_with fail
      refine (refWrite_ok a n c s at_ (some ⟨w1.heap.size, 0, none⟩) j j xs (List.replicate j v) wr X2.out Y2.out hn hm s0 s1 HF.out).mono ?_
      rintro e w5 ⟨g, cap, rfl, r5, b5, hcap, hg⟩
      obtain ⟨q0, q1, q2, q3⟩ := Z2.out.below b5
      have R5 := Lib.hid r5
      have B5 := Lib.hid b5
      have HC := Lib.hid hcap
      have HG := Lib.hid hg
      clear r5 b5 hcap hg p0 p1 p2 p3
      go_wp2
      refine bodyPost_ret (v := .tuple #[.agg #[.slice (some ⟨g, 0, none⟩) n cap, .int .i64 (s + j)], .int .i64 0]) (by simp [results, Try.results28, go_sem, q0, q1]) rfl ?_
      have hb := but_two w5 (w.heap.size + 1) (.slice (some ⟨g, 0, none⟩) n cap) (.int .i64 (s + j))
      have hG := HG.out
      have h1 := B2.out.size
      have h2 := HS.out
      have B6 := belowT (belowT HB.out B2.out) B5.out
      exact ⟨g, cap, rfl, R5.out.but hb (fun e => by omega), B6.trans (hb.one B6.size (by omega)), HC.out, by omega⟩
end Go.Proofs.Ytnopeifgcpibaaa
