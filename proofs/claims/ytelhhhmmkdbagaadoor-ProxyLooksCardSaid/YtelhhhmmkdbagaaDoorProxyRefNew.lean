/-
  The document's own answers for package proxy (almeryref10): New.
-/
import Derived.Test.YtelhhhmmkdbagaaDoorProxyRef
import Derived.Test.YtelhhhmmkdbagaaDoorRegImp
namespace Go.Proofs.YtelhhhmmkdbagaaDoor
open Go.ChangeShapes Go.WideShapes Go.ChangeAt Go.RowKit Go.Deep

theorem refNew_bad (n m : Int) (w : World) (h : ¬ (1 ≤ n ∧ n ≤ 4096 ∧ 1 ≤ m ∧ m ≤ 1023)) :
    Calls Tryd.prog 16 #[.int .i64 n, .int .i64 m] w fun e w' => e = .returned (.tuple #[.agg #[.slice none 0 0, .slice none 0 0, .slice none 0 0, .int .i64 0], .int .i64 1]) ∧ Below w.heap.size w w' := by
  by_cases h1 : n < 1
  · have d1 : decide (n < 1) = true := by simpa using h1
    clear h
    go_enter Tryd.func16, Tryd.ntmps16
    go_wp2
    refine bodyPost_ret (v := .tuple #[.agg #[.slice none 0 0, .slice none 0 0, .slice none 0 0, .int .i64 0], .int .i64 1]) (by simp [results, Tryd.results16, go_sem]) rfl ?_
    exact ⟨rfl, below2 w _ _⟩
  have d1 : decide (n < 1) = false := by simpa using h1
  by_cases h2 : 4096 < n
  · have d2 : decide (4096 < n) = true := by simpa using h2
    clear h
    go_enter Tryd.func16, Tryd.ntmps16
    go_wp2
    refine bodyPost_ret (v := .tuple #[.agg #[.slice none 0 0, .slice none 0 0, .slice none 0 0, .int .i64 0], .int .i64 1]) (by simp [results, Tryd.results16, go_sem]) rfl ?_
    exact ⟨rfl, below2 w _ _⟩
  have d2 : decide (4096 < n) = false := by simpa using h2
  by_cases h3 : m < 1
  · have d3 : decide (m < 1) = true := by simpa using h3
    clear h
    go_enter Tryd.func16, Tryd.ntmps16
    go_wp2
    refine bodyPost_ret (v := .tuple #[.agg #[.slice none 0 0, .slice none 0 0, .slice none 0 0, .int .i64 0], .int .i64 1]) (by simp [results, Tryd.results16, go_sem]) rfl ?_
    exact ⟨rfl, below2 w _ _⟩
  have d3 : decide (m < 1) = false := by simpa using h3
  have d4 : decide (1023 < m) = true := by simp; omega
  clear h
  go_enter Tryd.func16, Tryd.ntmps16
  go_wp2
  refine bodyPost_ret (v := .tuple #[.agg #[.slice none 0 0, .slice none 0 0, .slice none 0 0, .int .i64 0], .int .i64 1]) (by simp [results, Tryd.results16, go_sem]) rfl ?_
  exact ⟨rfl, below2 w _ _⟩

/-- Where the document's New has come to: k slots are laid. -/
structure Nl (w0 : World) (k : Nat) (ga : Option Addr) (gc : Nat) (la : Option Addr) (lc : Nat) (fa : Option Addr) (fc : Nat) (M : Int) (w : World) : Prop where
  nr : Nr w (w0.heap.size + 2) (w0.heap.size + 1) k k k ga gc la lc fa fc M
  res : Bv w w0.heap.size (.slice none 0 0) (.slice none 0 0) (.slice none 0 0) (.int .i64 0)
  below : Below w0.heap.size w0 w
set_option maxHeartbeats 2000000 in
theorem refNew_ok (K : Nat) (M : Int) (w : World) (h1 : 1 ≤ K) (h2 : K ≤ 4096) (m1 : 1 ≤ M) (m2 : M ≤ 1023) :
    Calls Tryd.prog 16 #[.int .i64 (K : Int), .int .i64 M] w fun e w' => ∃ ga gc la lc fa fc Q, e = .returned (.tuple #[.agg #[.slice ga K gc, .slice la K lc, .slice fa K fc, .int .i64 M], .int .i64 0]) ∧ Rp w' Q ga gc la lc fa fc K K (fresh K) ∧ Below w.heap.size w w' ∧ ∀ k, Q k → w.heap.size ≤ k := by
  have d1 : decide ((K : Int) < 1) = false := by simp; omega
  have d2 : decide ((4096 : Int) < (K : Int)) = false := by simp; omega
  have d3 : decide (M < 1) = false := by simp; omega
  have d4 : decide ((1023 : Int) < M) = false := by simp; omega
  have e0 : (w.alloc (.cells #[.slice none 0 0, .slice none 0 0, .slice none 0 0, .int .i64 0] 29)).heap.size = w.heap.size + 1 := by simp
  have v1 : Bv ((w.alloc (.cells #[.slice none 0 0, .slice none 0 0, .slice none 0 0, .int .i64 0] 29)).alloc (.cells #[.slice none 0 0, .slice none 0 0, .slice none 0 0, .int .i64 M] 29)) (w.heap.size + 1) (.slice none 0 0) (.slice none 0 0) (.slice none 0 0) (.int .i64 M) := by
    have := Bv.new (w.alloc (.cells #[.slice none 0 0, .slice none 0 0, .slice none 0 0, .int .i64 0] 29)) (.slice none 0 0) (.slice none 0 0) (.slice none 0 0) (.int .i64 M)
    rwa [e0] at this
  have N0 : Hid (Nl w 0 none 0 none 0 none 0 M ((w.alloc (.cells #[.slice none 0 0, .slice none 0 0, .slice none 0 0, .int .i64 0] 29)).alloc (.cells #[.slice none 0 0, .slice none 0 0, .slice none 0 0, .int .i64 M] 29))) := Lib.hid
    ⟨⟨v1, World.ownsRow_nil _ _ _ _, World.ownsRow_nil _ _ _ _, World.ownsRow_nil _ _ _ _, fun g e => by simp [Value.ownBlock] at e, fun g e => by simp [Value.ownBlock] at e, fun g e => by simp [Value.ownBlock] at e, by omega, by simp⟩, (Bv.new w _ _ _ _).below (below1 _ _), below2 w _ _⟩
  clear v1 e0
  go_enter Tryd.func16, Tryd.ntmps16
  go_wp2
  generalize (w.alloc (.cells #[.slice none 0 0, .slice none 0 0, .slice none 0 0, .int .i64 0] 29)).alloc (.cells #[.slice none 0 0, .slice none 0 0, .slice none 0 0, .int .i64 M] 29) = w1 at N0 ⊢
  go_loopw [7] (fun i wr => ∃ (k : Nat) (ga la fa : Option Addr) (gc lc fc : Nat), k ≤ K ∧ i = .int .i64 k ∧ Nl w k ga gc la lc fa fc M wr) (fun i _ => K - (intOf i).toNat)
  case atStart => exact ⟨0, none, none, none, 0, 0, 0, by omega, rfl, N0.out⟩
  case round =>
    obtain ⟨k, ga, la, fa, gc, lc, fc, hk, rfl, hs⟩ := hrel
    have HS := Lib.hid hs
    clear N0
    by_cases hlt : k < K
    · have dk : decide ((k : Int) < (K : Int)) = true := by simp; omega
      obtain ⟨g1, cap1, w2, r1, l1, n1, b1⟩ := hs.nr.first (by omega)
      obtain ⟨w3, hw3⟩ : ∃ w3, w3 = w2.setCell ⟨w.heap.size + 1, 0, none⟩ (.slice (some ⟨g1, 0, none⟩) (k + 1) cap1) := ⟨_, rfl⟩
      rw [← hw3] at n1 b1
      obtain ⟨g2, cap2, w4, r2, l2, n2, b2⟩ := n1.second (by omega)
      obtain ⟨w5, hw5⟩ : ∃ w5, w5 = w4.setCell ⟨w.heap.size + 1, 1, none⟩ (.slice (some ⟨g2, 0, none⟩) (k + 1) cap2) := ⟨_, rfl⟩
      rw [← hw5] at n2 b2
      obtain ⟨g3, cap3, w6, r3, l3, n3, b3⟩ := n2.third (by omega)
      have HN : Hid (Nl w (k + 1) (some ⟨g1, 0, none⟩) cap1 (some ⟨g2, 0, none⟩) cap2 (some ⟨g3, 0, none⟩) cap3 M (w6.setCell ⟨w.heap.size + 1, 2, none⟩ (.slice (some ⟨g3, 0, none⟩) (k + 1) cap3))) := Lib.hid
        ⟨n3, by
          have hb : Below (w.heap.size + 1) wr (w6.setCell ⟨w.heap.size + 1, 2, none⟩ (.slice (some ⟨g3, 0, none⟩) (k + 1) cap3)) := ((b1 _ (Nat.le_refl _)).trans (b2 _ (Nat.le_refl _))).trans (b3 _ (Nat.le_refl _))
          have hb' : But (fun x => w.heap.size + 1 ≤ x) wr (w6.setCell ⟨w.heap.size + 1, 2, none⟩ (.slice (some ⟨g3, 0, none⟩) (k + 1) cap3)) := ⟨hb.os, hb.tape, hb.output, hb.size, fun x _ hn => hb.block x (by omega)⟩
          exact HS.out.res.but hb' (by omega),
          ((HS.out.below.trans (b1 _ (by omega))).trans (b2 _ (by omega))).trans (b3 _ (by omega))⟩
      rw [hw3] at r2
      rw [show (w2.setCell ⟨w.heap.size + 1, 0, none⟩ (.slice (some ⟨g1, 0, none⟩) (k + 1) cap1)).heap.size = w2.heap.size by simp] at r2
      rw [hw5] at r3
      rw [show (w4.setCell ⟨w.heap.size + 1, 1, none⟩ (.slice (some ⟨g2, 0, none⟩) (k + 1) cap2)).heap.size = w4.heap.size by simp] at r3
      have R1 := Lib.hid r1
      have R2 := Lib.hid r2
      have R3 := Lib.hid r3
      obtain ⟨p0, p1, p2, p3, pf0, pf1, pf2, pf3⟩ := hs.nr.lv
      obtain ⟨q0, q1, q2, q3, qf0, qf1, qf2, qf3⟩ := l1
      obtain ⟨u0, u1, u2, u3, uf0, uf1, uf2, uf3⟩ := l2
      obtain ⟨t0, t1, t2, t3, tf0, tf1, tf2, tf3⟩ := l3
      clear hs r1 r2 r3 n1 n2 n3 b1 b2 b3 hw3 hw5
      go_wp2_with (first | (at_builtin; refine wpList_append_run rfl _ _ rfl rfl rfl rfl R1.out ?_) | (at_builtin; refine wpList_append_run rfl _ _ rfl rfl rfl rfl R2.out ?_) | (at_builtin; refine wpList_append_run rfl _ _ rfl rfl rfl rfl R3.out ?_))
      go_roundw
      case rel => exact ⟨k + 1, _, _, _, _, _, _, by omega, by go_num, HN.out⟩
      case measure => simp [intOf]; omega
    · have dk : decide ((k : Int) < (K : Int)) = false := by simp; omega
      obtain rfl : k = K := by omega
      obtain ⟨g1, c1, e1, hg1, hg1'⟩ := hs.nr.o0.form (by omega)
      obtain ⟨g2, c2, e2, hg2, hg2'⟩ := hs.nr.o1.form (by omega)
      obtain ⟨g3, c3, e3, hg3, hg3'⟩ := hs.nr.o2.form (by omega)
      injection e1 with e11 e12 e13
      injection e2 with e21 e22 e23
      injection e3 with e31 e32 e33
      subst e11 e13 e21 e23 e31 e33
      obtain ⟨p0, p1, p2, p3, pf0, pf1, pf2, pf3⟩ := hs.nr.lv
      obtain ⟨q0, q1, q2, q3, qf0, qf1, qf2, qf3⟩ := hs.res
      clear hs e12 e22 e32
      go_wp2
      obtain ⟨r0, r1, r2, r3, _, _, _, _⟩ := HS.out.res.set (.slice (some ⟨g1, 0, none⟩) k gc) (.slice (some ⟨g2, 0, none⟩) k lc) (.slice (some ⟨g3, 0, none⟩) k fc) (.int .i64 M)
      unfold set4 at r0 r1 r2 r3
      refine bodyPost_ret (v := .tuple #[.agg #[.slice (some ⟨g1, 0, none⟩) k gc, .slice (some ⟨g2, 0, none⟩) k lc, .slice (some ⟨g3, 0, none⟩) k fc, .int .i64 M], .int .i64 0]) (by simp [results, Tryd.results16, go_sem, r0, r1, r2, r3]) rfl ?_
      have bX := but_four wr w.heap.size (.slice (some ⟨g1, 0, none⟩) k gc) (.slice (some ⟨g2, 0, none⟩) k lc) (.slice (some ⟨g3, 0, none⟩) k fc) (.int .i64 M)
      have f1 : ∀ x ∈ List.replicate k (1 : Int), -9223372036854775808 ≤ x ∧ x ≤ 9223372036854775807 := fun x hx => by rw [(List.mem_replicate.1 hx).2]; omega
      have f3 : ∀ x ∈ turns k, -9223372036854775808 ≤ x ∧ x ≤ 9223372036854775807 := fun x hx => by obtain ⟨j, e, hj⟩ := mem_turns hx; omega
      obtain ⟨i1, ic1⟩ := ints_own HS.out.nr.o0 (by omega) f1
      obtain ⟨i2, ic2⟩ := bools_own HS.out.nr.o1 (by omega)
      obtain ⟨i3, ic3⟩ := ints_own HS.out.nr.o2 (by omega) f3
      have rp : Rp wr (fun i => i = g1 ∨ i = g2 ∨ i = g3) (some ⟨g1, 0, none⟩) gc (some ⟨g2, 0, none⟩) lc (some ⟨g3, 0, none⟩) fc k k (fresh k) :=
        ⟨i1, i2, i3, ic1, ic2, ic3, fun i hi => by rcases hi with e | e | e <;> omega, fun _ => ⟨g1, 0, rfl, Or.inl rfl⟩, fun _ => ⟨g2, 0, rfl, Or.inr (Or.inl rfl)⟩, fun _ => ⟨g3, 0, rfl, Or.inr (Or.inr rfl)⟩⟩
      exact ⟨_, _, _, _, _, _, _, rfl, rp.but bX (fun i hi e => by rcases hi with q | q | q <;> omega), HS.out.below.trans (bX.one HS.out.below.size (Nat.le_refl _)), fun i hi => by rcases hi with e | e | e <;> omega⟩
end Go.Proofs.YtelhhhmmkdbagaaDoor
