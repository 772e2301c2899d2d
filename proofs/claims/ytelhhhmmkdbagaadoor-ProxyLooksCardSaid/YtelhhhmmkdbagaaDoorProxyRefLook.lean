/-
  The document's own answers for package proxy (almeryref10): Look, Lives; an act's handle.
-/
import Derived.Test.YtelhhhmmkdbagaaDoorProxyRef
import Derived.Test.YtelhhhmmkdbagaaDoorIdentRef
namespace Go.Proofs.YtelhhhmmkdbagaaDoor
open Go.ChangeShapes Go.WideShapes Go.ChangeAt Go.RowKit Go.Deep

section
variable {w : World} {P : Nat → Prop} {ga la fa : Option Addr} {gc lc fc n K : Nat} {M M' : Int} {T : Tb}
set_option maxHeartbeats 2000000 in
theorem refLook_any (h : Rp w P ga gc la lc fa fc n K T) (hw : Tw K M' T) (x : Int) (l1 : -9223372036854775808 ≤ x) (l2 : x ≤ 9223372036854775807) :
    Calls Tryd.prog 11 #[.agg #[.slice ga K gc, .slice la K lc, .slice fa n fc, .int .i64 M], .int .i64 x] w (P2 (lookOut T x).1 (lookOut T x).2 w) := by
  have HS := fun v => refSplit_any x v l1 l2
  cases q : handB x with
  | false =>
    rw [look_bad q]
    obtain ⟨e1, e2, e3⟩ := split_off q
    rw [e1, e2, e3] at HS
    have H := Lib.hid HS
    clear h HS e1 e2 e3 q
    go_enter Tryd.func11, Tryd.ntmps11
    go_wp2_with fail
    refine (H.out _).mono ?_
    rintro e w' ⟨rfl, rfl⟩
    go_wp2
    go_ret2
    exact ⟨rfl, below1 _ _⟩
  | true =>
    obtain ⟨r1, r2⟩ := handB_in q
    obtain ⟨e1, e2, e3⟩ := split_on q
    obtain ⟨k, ek⟩ : ∃ k : Nat, x % 4096 = (k : Int) := ⟨(x % 4096).toNat, by omega⟩
    rw [e1, e2, e3, ek] at HS
    have H := Lib.hid HS
    have hmx := h.gens.max
    by_cases hk : k < K
    · obtain ⟨g, b, hg, hb⟩ := hw.ofK hk
      obtain ⟨gb, go, rfl, hgb, hgc⟩ := h.gens.head (by omega)
      obtain ⟨lb, lo, rfl, hlb, hlc⟩ := h.live.head (by omega)
      have c0 := hgc k g hg
      have c1 := hlc k b hb
      have c2 : (w.alloc (.cells #[.slice (some ⟨gb, go, none⟩) K gc, .slice (some ⟨lb, lo, none⟩) K lc, .slice fa n fc, .int .i64 M] 29)).cell? ⟨gb, go + k, none⟩ = some (.int .i64 g) := (World.cell?_alloc_lt w _ ⟨gb, go + k, none⟩ hgb).trans c0
      have c3 : (w.alloc (.cells #[.slice (some ⟨gb, go, none⟩) K gc, .slice (some ⟨lb, lo, none⟩) K lc, .slice fa n fc, .int .i64 M] 29)).cell? ⟨lb, lo + k, none⟩ = some (.bool b) := (World.cell?_alloc_lt w _ ⟨lb, lo + k, none⟩ hlb).trans c1
      have dk : decide ((K : Int) ≤ (k : Int)) = false := decide_eq_false (by omega)
      have EQ : Hid (lookOut T x = if x / 4096 < g then (0, 6) else if g < x / 4096 then (0, 7) else if b = true then ((k : Int), 0) else (0, 7)) := Lib.hid (by
        split
        · exact look_old q ek hg (by assumption)
        · split
          · exact look_new q ek hg (by assumption)
          · cases b with
            | true => rw [look_on q ek hg (by omega) hb]; rfl
            | false => rw [look_off q ek hg (by omega) hb]; rfl)
      generalize x / 4096 = y at H EQ
      clear hg hb HS e1 e2 e3 ek q h hgc hlc c0 c1 hw
      by_cases d1 : y < g
      · have dd : decide (y < g) = true := decide_eq_true d1
        have dd2 : decide (g < y) = false := decide_eq_false (by omega)
        have dd3 : (g == y) = false := beq_eq_false_iff_ne.2 (by omega)
        rw [EQ.out, if_pos d1]
        clear EQ
        go_enter Tryd.func11, Tryd.ntmps11
        go_wp2_with fail
        refine (H.out _).mono ?_
        rintro e w' ⟨rfl, rfl⟩
        go_wp2
        go_ret2
        exact ⟨rfl, below1 _ _⟩
      · have dd : decide (y < g) = false := decide_eq_false d1
        rw [EQ.out, if_neg d1]
        by_cases d2 : g < y
        · have dd2 : decide (g < y) = true := decide_eq_true d2
          rw [if_pos d2]
          clear EQ
          go_enter Tryd.func11, Tryd.ntmps11
          go_wp2_with fail
          refine (H.out _).mono ?_
          rintro e w' ⟨rfl, rfl⟩
          go_wp2
          go_ret2
          exact ⟨rfl, below1 _ _⟩
        · have dd2 : decide (g < y) = false := decide_eq_false d2
          rw [if_neg d2]
          have dd3 : (g == y) = true := beq_iff_eq.2 (by omega)
          cases b with
          | true =>
            rw [if_pos rfl]
            clear EQ
            go_enter Tryd.func11, Tryd.ntmps11
            go_wp2_with fail
            refine (H.out _).mono ?_
            rintro e w' ⟨rfl, rfl⟩
            go_wp2
            go_ret2
            exact ⟨rfl, below1 _ _⟩
          | false =>
            rw [if_neg (by simp)]
            clear EQ
            go_enter Tryd.func11, Tryd.ntmps11
            go_wp2_with fail
            refine (H.out _).mono ?_
            rintro e w' ⟨rfl, rfl⟩
            go_wp2
            go_ret2
            exact ⟨rfl, below1 _ _⟩
    · rw [look_far q ek (List.getElem?_eq_none (by rw [hw.lg]; omega))]
      have dk : decide ((K : Int) ≤ (k : Int)) = true := decide_eq_true (by omega)
      clear h HS e1 e2 e3 ek q hw
      generalize x / 4096 = y at H
      go_enter Tryd.func11, Tryd.ntmps11
      go_wp2_with fail
      refine (H.out _).mono ?_
      rintro e w' ⟨rfl, rfl⟩
      go_wp2
      go_ret2
      exact ⟨rfl, below1 _ _⟩

set_option maxHeartbeats 1000000 in
theorem lives_any (h : Rp w P ga gc la lc fa fc n K T) (hK : K ≤ 4096) :
    Calls Tryd.prog 14 #[.agg #[.slice ga K gc, .slice la K lc, .slice fa n fc, .int .i64 M]] w (IB (T.L.count true : Int) w) := by
  have hlen := h.live.len
  have H := Lib.hid (h.live.on (below1 w (.cells #[.slice ga K gc, .slice la K lc, .slice fa n fc, .int .i64 M] 29)))
  have B0 := Lib.hid (below1 w (.cells #[.slice ga K gc, .slice la K lc, .slice fa n fc, .int .i64 M] 29))
  have Z0 := Lib.hid (Bv.new w (.slice ga K gc) (.slice la K lc) (.slice fa n fc) (.int .i64 M))
  clear h
  go_enter Tryd.func14, Tryd.ntmps14
  go_wp2
  generalize w.alloc (.cells #[.slice ga K gc, .slice la K lc, .slice fa n fc, .int .i64 M] 29) = w1 at H B0 Z0 ⊢
  obtain ⟨p0, p1, p2, p3, pf0, pf1, pf2, pf3⟩ := Z0.out
  generalize w.heap.size = X at p0 p1 p2 p3 pf0 pf1 pf2 pf3
  go_loopw [4, 3] (fun i m wr => ∃ k : Nat, k ≤ K ∧ i = .int .i64 k ∧ m = .int .i64 ((T.L.take k).count true : Int) ∧ wr = w1) (fun i _ _ => K - (intOf i).toNat)
  case atStart => exact ⟨0, by omega, rfl, by simp, rfl⟩
  case round =>
    obtain ⟨k, hk, rfl, rfl, rfl⟩ := hrel
    by_cases hlt : k < K
    · have dk : decide ((k : Int) < (K : Int)) = true := by simp; omega
      obtain ⟨lb, lo, rfl, hlb, hlc⟩ := H.out.head (by omega)
      obtain ⟨b, hb⟩ := H.out.at_ hlt
      have c1 := hlc k b hb
      have hle : (T.L.take k).count true ≤ K := by
        have := List.count_le_length (a := true) (l := T.L.take k)
        rw [List.length_take] at this
        omega
      have hlt' : k < T.L.length := by omega
      have hnx : (T.L.take (k + 1)).count true = (T.L.take k).count true + (if b = true then 1 else 0) := by
        rw [List.take_add_one, hb, List.count_append]
        cases b <;> rfl
      have HX := Lib.hid hnx
      generalize (T.L.take k).count true = m at hle HX
      clear hlc hb hnx
      cases b with
      | true =>
        have wm : IntKind.i64.wrap ((m : Int) + 1) = ((m + 1 : Nat) : Int) := by rw [IntWalk.i64_in _ (by omega)]; omega
        go_wp2
        go_roundw
        case rel => exact ⟨k + 1, by omega, by go_num, by rw [HX.out]; rfl, by trivial⟩
        case measure => simp [intOf]; omega
      | false =>
        go_wp2
        go_roundw
        case rel => exact ⟨k + 1, by omega, by go_num, by rw [HX.out]; rfl, by trivial⟩
        case measure => simp [intOf]; omega
    · have dk : decide ((k : Int) < (K : Int)) = false := by simp; omega
      obtain rfl : k = K := by omega
      rw [List.take_of_length_le (by omega)]
      obtain ⟨m, hm⟩ : ∃ m, m = T.L.count true := ⟨_, rfl⟩
      rw [← hm]
      have HM := Lib.hid hm
      clear hm
      go_wp2
      go_ret
      exact ⟨by first | rfl | (rw [← HM.out]; rfl), B0.out⟩
end
end Go.Proofs.YtelhhhmmkdbagaaDoor
