import Derived.Test.YtijkigibcpgciaaZPlRef
import Derived.Test.YtijkigibcpgciaaZGA
/-
  The document's own answers for package pool (almeryref08): New, Owner.
-/
namespace Go.Proofs.Ytijkigibcpgciaa.Pl
open Go.ChangeShapes Go.WideShapes Go.ChangeAt Go.RowKit Go.Deep
set_option maxRecDepth 100000

theorem refNew_bad (n : Int) (w : World) (h : ¬ (1 ≤ n ∧ n ≤ 1024)) :
    Calls Try.prog 32 #[.int .i64 n] w fun e w' => e = .returned (.tuple #[.agg #[.slice none 0 0, .slice none 0 0], .int .i64 1]) ∧ Below w.heap.size w w' := by
  by_cases h1 : n < 1
  · have d1 : decide (n < 1) = true := by simpa using h1
    clear h
    go_enter Try.func32, Try.ntmps32
    go_wp2
    refine bodyPost_ret (v := .tuple #[.agg #[.slice none 0 0, .slice none 0 0], .int .i64 1]) (by simp [results, Try.results32, go_sem]) rfl ?_
    exact ⟨rfl, below2 w _ _⟩
  · have d1 : decide (n < 1) = false := by simpa using h1
    have d2 : decide (1024 < n) = true := by simp; omega
    clear h
    go_enter Try.func32, Try.ntmps32
    go_wp2
    refine bodyPost_ret (v := .tuple #[.agg #[.slice none 0 0, .slice none 0 0], .int .i64 1]) (by simp [results, Try.results32, go_sem]) rfl ?_
    exact ⟨rfl, below2 w _ _⟩

/-- Where the document's New has come to: k pages are laid. -/
structure Nl (w0 : World) (k : Nat) (oa : Option Addr) (oc : Nat) (fa : Option Addr) (fc : Nat) (w : World) : Prop where
  nr : Nr w (w0.heap.size + 2) (w0.heap.size + 1) k k oa oc fa fc
  res : Bv w w0.heap.size none 0 0 none 0 0
  below : Below w0.heap.size w0 w
set_option maxHeartbeats 1000000 in
theorem refNew_ok (K : Nat) (w : World) (h1 : 1 ≤ K) (h2 : K ≤ 1024) :
    Calls Try.prog 32 #[.int .i64 (K : Int)] w fun e w' => ∃ oa oc fa fc Q, e = .returned (.tuple #[.agg #[.slice oa K oc, .slice fa K fc], .int .i64 0]) ∧ Rp w' Q oa oc fa fc K K (freed K) (turns K) ∧ Below w.heap.size w w' ∧ ∀ k, Q k → w.heap.size ≤ k := by
  have d1 : decide ((K : Int) < 1) = false := by simp; omega
  have d2 : decide ((1024 : Int) < (K : Int)) = false := by simp; omega
  have e0 : (w.alloc (.cells #[.slice none 0 0, .slice none 0 0] 33)).heap.size = w.heap.size + 1 := by simp
  have v1 : Bv ((w.alloc (.cells #[.slice none 0 0, .slice none 0 0] 33)).alloc (.cells #[.slice none 0 0, .slice none 0 0] 33)) (w.heap.size + 1) none 0 0 none 0 0 := by
    have := Bv.new (w.alloc (.cells #[.slice none 0 0, .slice none 0 0] 33)) none 0 0 none 0 0
    rwa [e0] at this
  have N0 : Hid (Nl w 0 none 0 none 0 ((w.alloc (.cells #[.slice none 0 0, .slice none 0 0] 33)).alloc (.cells #[.slice none 0 0, .slice none 0 0] 33))) := Lib.hid
    ⟨⟨v1, World.ownsRow_nil _ _ _ _, World.ownsRow_nil _ _ _ _, fun g e => by simp [Value.ownBlock] at e, by omega, by simp⟩, (Bv.new w none 0 0 none 0 0).below (below1 _ _), below2 w _ _⟩
  clear v1 e0
  go_enter Try.func32, Try.ntmps32
  go_wp2
  generalize (w.alloc (.cells #[.slice none 0 0, .slice none 0 0] 33)).alloc (.cells #[.slice none 0 0, .slice none 0 0] 33) = w1 at N0 ⊢
  go_loopw [5] (fun i wr => ∃ (k : Nat) (oa fa : Option Addr) (oc fc : Nat), k ≤ K ∧ i = .int .i64 k ∧ Nl w k oa oc fa fc wr) (fun i _ => K - (intOf i).toNat)
  case atStart => exact ⟨0, none, none, 0, 0, by omega, rfl, N0.out⟩
  case round =>
    obtain ⟨k, oa, fa, oc, fc, hk, rfl, hs⟩ := hrel
    have HS := Lib.hid hs
    clear N0
    by_cases hlt : k < K
    · have dk : decide ((k : Int) < (K : Int)) = true := by simp; omega
      obtain ⟨g1, cap1, w2, r1, l1, n1, b1⟩ := hs.nr.first (by omega)
      obtain ⟨w3, hw3⟩ : ∃ w3, w3 = w2.setCell ⟨w.heap.size + 1, 0, none⟩ (.slice (some ⟨g1, 0, none⟩) (k + 1) cap1) := ⟨_, rfl⟩
      rw [← hw3] at n1 b1
      obtain ⟨g2, cap2, w4, r2, l2, n2, b2⟩ := n1.second (by omega)
      have HN : Hid (Nl w (k + 1) (some ⟨g1, 0, none⟩) cap1 (some ⟨g2, 0, none⟩) cap2 (w4.setCell ⟨w.heap.size + 1, 1, none⟩ (.slice (some ⟨g2, 0, none⟩) (k + 1) cap2))) := Lib.hid
        ⟨n2, by
          have hb : Below (w.heap.size + 1) wr (w4.setCell ⟨w.heap.size + 1, 1, none⟩ (.slice (some ⟨g2, 0, none⟩) (k + 1) cap2)) := (b1 _ (Nat.le_refl _)).trans (b2 _ (Nat.le_refl _))
          exact ⟨(hb.cell (p := ⟨w.heap.size, 0, none⟩) (by show w.heap.size < _; omega)).trans HS.out.res.c0, (hb.cell (p := ⟨w.heap.size, 1, none⟩) (by show w.heap.size < _; omega)).trans HS.out.res.c1,
            (hb.frozen (p := ⟨w.heap.size, 0, none⟩) (by show w.heap.size < _; omega)).trans HS.out.res.f0, (hb.frozen (p := ⟨w.heap.size, 1, none⟩) (by show w.heap.size < _; omega)).trans HS.out.res.f1⟩,
          (HS.out.below.trans (b1 _ (by omega))).trans (b2 _ (by omega))⟩
      rw [hw3] at r2
      rw [show (w2.setCell ⟨w.heap.size + 1, 0, none⟩ (.slice (some ⟨g1, 0, none⟩) (k + 1) cap1)).heap.size = w2.heap.size by simp] at r2
      have R1 := Lib.hid r1
      have R2 := Lib.hid r2
      obtain ⟨p0, p1, p2, p3⟩ := hs.nr.lv
      obtain ⟨q0, q1, q2, q3⟩ := l1
      obtain ⟨u0, u1, u2, u3⟩ := l2
      clear hs r1 r2 n1 n2 b1 b2 hw3
      go_wp2_with (first | (at_builtin; refine wpList_append_run rfl _ _ rfl rfl rfl rfl R1.out ?_) | (at_builtin; refine wpList_append_run rfl _ _ rfl rfl rfl rfl R2.out ?_))
      go_roundw
      case rel => exact ⟨k + 1, _, _, _, _, by omega, by go_num, HN.out⟩
      case measure => simp [intOf]; omega
    · have dk : decide ((k : Int) < (K : Int)) = false := by simp; omega
      obtain rfl : k = K := by omega
      obtain ⟨g1, c1, e1, hg1, hg1'⟩ := hs.nr.o0.form (by omega)
      obtain ⟨g2, c2, e2, hg2, hg2'⟩ := hs.nr.o1.form (by omega)
      injection e1 with e11 e12 e13
      injection e2 with e21 e22 e23
      subst e11 e13 e21 e23
      obtain ⟨p0, p1, p2, p3⟩ := hs.nr.lv
      obtain ⟨q0, q1, q2, q3⟩ := hs.res
      clear hs e12 e22
      go_wp2
      refine bodyPost_ret (v := .tuple #[.agg #[.slice (some ⟨g1, 0, none⟩) k oc, .slice (some ⟨g2, 0, none⟩) k fc], .int .i64 0]) (by simp [results, Try.results32, go_sem, q0, q1]) rfl ?_
      have bX := but_two wr w.heap.size (.slice (some ⟨g1, 0, none⟩) k oc) (.slice (some ⟨g2, 0, none⟩) k fc)
      have hP := Pw.new k
      have f1 : ∀ x ∈ freed k, -9223372036854775808 ≤ x ∧ x ≤ 9223372036854775807 := hP.fit
      have f2 : ∀ x ∈ turns k, -9223372036854775808 ≤ x ∧ x ≤ 9223372036854775807 := fun x hx => hP.flFit h2 hx
      obtain ⟨i1, ic1⟩ := ints_own HS.out.nr.o0 (by omega) f1
      obtain ⟨i2, ic2⟩ := ints_own HS.out.nr.o1 (by omega) f2
      have rp : Rp wr (fun i => i = g1 ∨ i = g2) (some ⟨g1, 0, none⟩) oc (some ⟨g2, 0, none⟩) fc k k (freed k) (turns k) :=
        ⟨i1, i2, ic1, ic2, fun i hi => by rcases hi with e | e <;> omega, fun _ => ⟨g1, 0, rfl, Or.inl rfl⟩, fun _ => ⟨g2, 0, rfl, Or.inr rfl⟩⟩
      exact ⟨_, _, _, _, _, rfl, rp.but bX (fun i hi e => by rcases hi with q | q <;> omega), HS.out.below.trans (bX.one HS.out.below.size (Nat.le_refl _)), fun i hi => by rcases hi with e | e <;> omega⟩

section
variable {w : World} {P : Nat → Prop} {oa fa : Option Addr} {oc fc n K : Nat} {O fl : List Int}
end
end Go.Proofs.Ytijkigibcpgciaa.Pl
