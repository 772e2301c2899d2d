/-
  The document's own answers for package ring (almeryref07): Of, Next, Ends.
-/
import Derived.Test.YtakecddjpdiojaaRingRef
namespace Go.Proofs.Ytakecddjpdiojaa
open Go.ChangeShapes Go.WideShapes Go.ChangeAt Go.RowKit

section
variable {w : World} {B b o N M C : Nat} {L : List (List Int)}
/-- One of the lists, in memory. -/
theorem Lss.row (h : Lss w B (some ⟨b, o, none⟩) M L) {i : Nat} (hi : i < M) :
    ∃ (ra : Option Addr) (rc : Nat), w.cell? ⟨b, o + i, none⟩ = some (.slice ra (ln L i) rc) ∧ ln L i ≤ rc ∧ Ints w B ra (ln L i) ((L[i]?).getD []) ∧ ln L i ≤ 1000000 := by
  have hl : i < L.length := by rw [h.len]; exact hi
  have hx : L[i]? = some L[i] := List.getElem?_eq_getElem hl
  obtain ⟨b', o', e, _, hc⟩ := h.head (by omega)
  injection e with e
  injection e with e1 e2
  subst e1 e2
  obtain ⟨ra, rn, rc, h1, h2, h3⟩ := hc i _ hx
  have e : ln L i = rn := by unfold ln; rw [hx]; exact h3.len
  have hm := h.most _ (List.getElem_mem hl)
  refine ⟨ra, rc, by rw [e]; exact h1, by omega, ?_, ?_⟩
  · rw [hx, e]; exact h3
  · rw [e, ← h3.len]; exact hm

theorem refOf_any (hw : Wf N M C L) (hM : 1 ≤ M) (a : Option Addr) (c : Nat) (s n : Int) (h : Lss w w.heap.size a M L) :
    Calls Try.prog 19 #[.agg #[.slice a M c, .int .i64 s], .int .i64 n] w (IB (ofL L n) w) := by
  have HB := Lib.hid (below1 w (.cells #[.slice a M c, .int .i64 s] 30))
  have HP := Lib.hid (refPlace_any hw hM a c s n (h.on HB.out))
  clear h
  go_enter Try.func19, Try.ntmps19
  go_wp2_with fail
  refine HP.out.mono ?_
  rintro e w2 ⟨rfl, b2⟩
  have B2 := Lib.hid (belowT HB.out b2)
  clear b2
  go_wp2
  go_ret
  exact ⟨rfl, B2.out⟩

theorem refNext_any (hw : Wf N M C L) (hM : 1 ≤ M) (a : Option Addr) (c : Nat) (s n : Int) (h : Lss w w.heap.size a M L) :
    Calls Try.prog 27 #[.agg #[.slice a M c, .int .i64 s], .int .i64 n] w (IB (nextL L n) w) := by
  have HB := Lib.hid (below1 w (.cells #[.slice a M c, .int .i64 s] 30))
  have HP := Lib.hid (refPlace_any hw hM a c s n (h.on HB.out))
  have HL := Lib.hid (h.on HB.out)
  have c0 : (w.alloc (.cells #[.slice a M c, .int .i64 s] 30)).cell? ⟨w.heap.size, 0, none⟩ = some (.slice a M c) := by go_simp
  have HC := Lib.hid c0
  have hmax := h.max
  clear h c0
  rcases spot L n with ⟨i, j, hat⟩ | hno
  · have hi : i < M := by rw [← hw.len]; exact at_len hat
    have hj := at_lt hat
    rw [hw.of hat, hw.plcJ hat] at HP
    rw [hw.next hat]
    have HW := Lib.hid hw
    clear hat hw
    go_enter Try.func27, Try.ntmps27
    go_wp2_with fail
    refine HP.out.mono ?_
    rintro e w2 ⟨rfl, b2⟩
    have B2 := Lib.hid (belowT HB.out b2)
    have L2 := HL.out.on b2
    have c0 := (b2.cell (p := ⟨w.heap.size, 0, none⟩) (by simp)).trans HC.out
    obtain ⟨b, o, rfl, hb, _⟩ := L2.head (by omega)
    obtain ⟨ra, rc, e1, e2, e3, e4⟩ := L2.row hi
    obtain ⟨x, hx⟩ : ∃ x, x = (L[i]?).getD [] := ⟨_, rfl⟩
    obtain ⟨l, hl⟩ : ∃ l, l = ln L i := ⟨_, rfl⟩
    rw [← hl] at e1 e2 e3 e4 hj
    rw [← hx] at e3
    have d1 : decide ((i : Int) < 0) = false := decide_eq_false (by omega)
    have hwr : IntKind.i64.wrap ((j : Int) + 1) = ((j + 1 : Nat) : Int) := by rw [IntWalk.i64_in _ (by omega)]; omega
    have HX := Lib.hid hx
    have HLL := Lib.hid hl
    generalize w.heap.size = g at c0 ⊢
    by_cases z : j + 1 = l
    · have d2 : (((j + 1 : Nat) : Int) == (l : Int)) = true := by rw [z]; simp
      have HG := Lib.hid (gt_out (L := L) (i := i) (j := j + 1) (by rw [← HLL.out]; omega))
      clear e3 L2 b2 hx hl z
      go_wp2
      go_ret
      rw [HG.out]
      exact ⟨rfl, B2.out⟩
    · have d2 : (((j + 1 : Nat) : Int) == (l : Int)) = false := beq_eq_false_iff_ne.2 (by omega)
      obtain ⟨m, hm, _, _⟩ := e3.at_ (k := j + 1) (by omega)
      obtain ⟨b2', o2, rfl, _, hc2⟩ := e3.head (by omega)
      have e5 := hc2 (j + 1) m hm
      have HG : Hid (gt L i (j + 1) = m) := Lib.hid (by unfold gt; rw [← HX.out, hm]; rfl)
      have hjl : j + 1 < l := by omega
      obtain ⟨j1, hj1⟩ : ∃ j1, j1 = j + 1 := ⟨_, rfl⟩
      rw [← hj1] at hwr d2 e5 hjl
      clear e3 L2 b2 hx hl hc2 hm z hj1
      go_wp2
      go_ret
      rw [HG.out]
      exact ⟨rfl, B2.out⟩
  · rw [of_no hno, plcJ_no hno] at HP
    rw [next_no hno]
    clear hno
    go_enter Try.func27, Try.ntmps27
    go_wp2_with fail
    refine HP.out.mono ?_
    rintro e w2 ⟨rfl, b2⟩
    have B2 := Lib.hid (belowT HB.out b2)
    clear b2
    go_wp2
    go_ret
    exact ⟨rfl, B2.out⟩

theorem refEnds_any (hM : 1 ≤ M) (a : Option Addr) (c : Nat) (s i : Int) (h : Lss w w.heap.size a M L) :
    Calls Try.prog 26 #[.agg #[.slice a M c, .int .i64 s], .int .i64 i] w fun e w' => e = .returned (.tuple #[.int .i64 (firstI L i), .int .i64 (lastI L i), .int .i64 (lenI L i)]) ∧ Below w.heap.size w w' := by
  have HB := Lib.hid (below1 w (.cells #[.slice a M c, .int .i64 s] 30))
  have HL := Lib.hid (h.on HB.out)
  have c0 : (w.alloc (.cells #[.slice a M c, .int .i64 s] 30)).cell? ⟨w.heap.size, 0, none⟩ = some (.slice a M c) := by go_simp
  have hmax := h.max
  have hlen := h.len
  clear h
  unfold firstI lastI lenI
  rw [hlen]
  cases hq : inB M i with
  | false =>
    have HB2 := Lib.hid HB.out
    by_cases h0 : i < 0
    · have d1 : decide (i < 0) = true := by simpa using h0
      clear hq h0 hlen
      go_enter Try.func26, Try.ntmps26
      go_wp2
      go_ret3
      exact ⟨rfl, HB.out⟩
    · have d1 : decide (i < 0) = false := by simpa using h0
      have d2 : decide ((M : Int) ≤ i) = true := by simp [inB] at hq; simp; omega
      clear hq h0 hlen
      go_enter Try.func26, Try.ntmps26
      go_wp2
      go_ret3
      exact ⟨rfl, HB.out⟩
  | true =>
    obtain ⟨k, rfl, hk⟩ := inB_nat hq
    rw [if_pos rfl, if_pos rfl, if_pos rfl, Int.toNat_natCast]
    have d1 : decide ((k : Int) < 0) = false := decide_eq_false (by omega)
    have d2 : decide ((M : Int) ≤ (k : Int)) = false := by simp; omega
    generalize hw1 : w.alloc (.cells #[.slice a M c, .int .i64 s] 30) = w1 at HB HL c0
    obtain ⟨b, o, rfl, hb, _⟩ := HL.out.head (by omega)
    obtain ⟨ra, rc, e1, e2, e3, e4⟩ := HL.out.row hk
    have E3 := Lib.hid e3
    clear e3 hq hlen
    by_cases z : ln L k = 0
    · have d3 : (((ln L k : Nat) : Int) == 0) = true := by rw [z]; rfl
      have G1 := Lib.hid (gt_out (L := L) (i := k) (j := 0) (by omega))
      have G2 := Lib.hid (gt_out (L := L) (i := k) (j := ln L k - 1) (by omega))
      have HZ := Lib.hid z
      unfold firstL lastL
      rw [G1.out, G2.out]
      generalize ln L k = l at e1 e2 e4 d3 HZ ⊢
      clear z
      go_enter Try.func26, Try.ntmps26
      go_wp2
      go_ret3
      rw [HZ.out]
      exact ⟨rfl, HB.out⟩
    · have d3 : (((ln L k : Nat) : Int) == 0) = false := beq_eq_false_iff_ne.2 (by omega)
      obtain ⟨m0, hm0, _, _⟩ := E3.out.at_ (k := 0) (by omega)
      obtain ⟨m1, hm1, _, _⟩ := E3.out.at_ (k := ln L k - 1) (by omega)
      have G1 : Hid (firstL L k = m0) := Lib.hid (by unfold firstL gt; rw [hm0]; rfl)
      have G2 : Hid (lastL L k = m1) := Lib.hid (by unfold lastL gt; rw [hm1]; rfl)
      obtain ⟨b2, o2, rfl, _, hc2⟩ := E3.out.head (by omega)
      have e5 := hc2 0 m0 hm0
      have e6 := hc2 (ln L k - 1) m1 hm1
      rw [G1.out, G2.out]
      obtain ⟨t, ht⟩ : ∃ t, t = ln L k - 1 := ⟨_, rfl⟩
      rw [← ht] at e6
      have hwr : IntKind.i64.wrap (((ln L k : Nat) : Int) - 1) = (t : Int) := by rw [IntWalk.i64_in _ (by omega)]; omega
      have ht2 : t < ln L k := by omega
      have hl2 : 0 < ln L k := by omega
      clear hc2 hm0 hm1 z ht E3 G1 G2
      generalize ln L k = l at e1 e2 e4 d3 hwr ht2 hl2 ⊢
      rw [Nat.add_zero] at e5
      go_enter Try.func26, Try.ntmps26
      go_wp2
      go_quiet (fail)
      go_wp2
      go_ret3
      exact ⟨rfl, belowN HB.out _⟩
end
end Go.Proofs.Ytakecddjpdiojaa
