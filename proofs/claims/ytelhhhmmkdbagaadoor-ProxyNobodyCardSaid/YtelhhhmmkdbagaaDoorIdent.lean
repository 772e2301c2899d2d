/-
  Package ident, met by contracts: may, Join and Split; the document's own answers; and awake of the laws. They speak of worlds in which the package's bounds stand as its text lays them.
-/
import Derived.Test.YtelhhhmmkdbagaaDoorFresh
import Derived.Test.YtelhhhmmkdbagaaDoorQuietImp
import Derived.WalkMore
import Derived.Lib.Hide
namespace Go.Proofs.YtelhhhmmkdbagaaDoor
open Go.ChangeShapes Go.WideShapes Go.ChangeAt Go.RowKit

/-- The bounds of slots and generations stand in block 0. -/
structure Bd (w : World) : Prop where
  c0 : w.cell? ⟨0, 0, none⟩ = some (.int .i64 0)
  c1 : w.cell? ⟨0, 1, none⟩ = some (.int .i64 4095)
  c2 : w.cell? ⟨0, 2, none⟩ = some (.int .i64 1)
  c3 : w.cell? ⟨0, 3, none⟩ = some (.int .i64 1023)
theorem Bd.pos {w : World} (h : Bd w) : 0 < w.heap.size := World.block_lt_of_cell? w ⟨0, 0, none⟩ h.c0
theorem Bd.below {w w' : World} {B : Nat} (h : Bd w) (hB : 0 < B) (b : Below B w w') : Bd w' :=
  ⟨(b.cell (p := ⟨0, 0, none⟩) hB).trans h.c0, (b.cell (p := ⟨0, 1, none⟩) hB).trans h.c1, (b.cell (p := ⟨0, 2, none⟩) hB).trans h.c2, (b.cell (p := ⟨0, 3, none⟩) hB).trans h.c3⟩

/-- Whether a slot and a generation may be. -/
def mayB (x y : Int) : Bool := decide (0 ≤ x ∧ x ≤ 4095 ∧ 1 ≤ y ∧ y ≤ 1023)
theorem mayB_on {x y : Int} (h : 0 ≤ x ∧ x ≤ 4095 ∧ 1 ≤ y ∧ y ≤ 1023) : mayB x y = true := by simpa [mayB] using h
theorem mayB_off {x y : Int} (h : ¬ (0 ≤ x ∧ x ≤ 4095 ∧ 1 ≤ y ∧ y ≤ 1023)) : mayB x y = false := decide_eq_false h

set_option maxHeartbeats 1600000 in
theorem may09_any (x y : Int) (w : World) (h : Bd w) : Calls Tryd.prog 30 #[.agg #[.int .i64 x, .int .i64 y]] w (BB (mayB x y) w) := by
  have hp := h.pos
  have h0 := h.c0
  have h1 := h.c1
  have h2 := h.c2
  have h3 := h.c3
  have HB : Hid (Below w.heap.size w (w.alloc (.cells #[.int .i64 x, .int .i64 y] 75))) := Lib.hid (below1 _ _)
  clear h
  go_enter Tryd.func30, Tryd.ntmps30
  go_wp2
  go_loopw [4] (fun i wr => ∃ k : Nat, k ≤ 2 ∧ i = .int .i64 k ∧ (1 ≤ k → 0 ≤ x ∧ x ≤ 4095) ∧ (2 ≤ k → 1 ≤ y ∧ y ≤ 1023) ∧ ∃ d, wr = (w.alloc (.cells #[.int .i64 x, .int .i64 y] 75)).drewN d) (fun i _ => 2 - (intOf i).toNat)
  case atStart => exact ⟨0, by omega, rfl, by omega, by omega, 0, rfl⟩
  case round =>
    obtain ⟨k, hk, rfl, hx, hy, d, rfl⟩ := hrel
    have hks : k = 0 ∨ k = 1 ∨ k = 2 := by omega
    rcases hks with rfl | rfl | rfl
    · clear hx hy hk
      by_cases a1 : x < 0
      · have HF := Lib.hid (mayB_off (x := x) (y := y) (by omega))
        have d1 : decide (x < 0) = true := by simpa using a1
        go_wp2
        go_quiet (fail)
        go_wp2
        go_ret
        rw [HF.out]
        exact ⟨rfl, belowN (belowN HB.out _) _⟩
      · have d1 : decide (x < 0) = false := by simpa using a1
        by_cases a2 : 4095 < x
        · have HF := Lib.hid (mayB_off (x := x) (y := y) (by omega))
          have d2 : decide (4095 < x) = true := by simpa using a2
          go_wp2
          go_quiet (fail)
          go_wp2
          go_ret
          rw [HF.out]
          exact ⟨rfl, belowN (belowN HB.out _) _⟩
        · have d2 : decide (4095 < x) = false := by simpa using a2
          go_wp2
          go_quiet (fail)
          go_wp2
          go_roundw
          case rel => exact ⟨1, by omega, by go_num, by omega, by omega, _, rfl⟩
          case measure => simp [intOf]
    · have hx' := hx (by omega)
      clear hx hy hk
      by_cases a1 : y < 1
      · have HF := Lib.hid (mayB_off (x := x) (y := y) (by omega))
        have d1 : decide (y < 1) = true := by simpa using a1
        go_wp2
        go_quiet (fail)
        go_wp2
        go_ret
        rw [HF.out]
        exact ⟨rfl, belowN (belowN HB.out _) _⟩
      · have d1 : decide (y < 1) = false := by simpa using a1
        by_cases a2 : 1023 < y
        · have HF := Lib.hid (mayB_off (x := x) (y := y) (by omega))
          have d2 : decide (1023 < y) = true := by simpa using a2
          go_wp2
          go_quiet (fail)
          go_wp2
          go_ret
          rw [HF.out]
          exact ⟨rfl, belowN (belowN HB.out _) _⟩
        · have d2 : decide (1023 < y) = false := by simpa using a2
          go_wp2
          go_quiet (fail)
          go_wp2
          go_roundw
          case rel => exact ⟨2, by omega, by go_num, by omega, by omega, _, rfl⟩
          case measure => simp [intOf]
    · have HF := Lib.hid (mayB_on (x := x) (y := y) (by omega))
      clear hx hy hk
      go_wp2
      go_ret
      rw [HF.out]
      exact ⟨rfl, belowN HB.out _⟩

/-- It returns two ints, or three, and leaves all memory that was there as it was. -/
def P2 (a b : Int) (w : World) (e : Ending) (w' : World) : Prop := e = .returned (.tuple #[.int .i64 a, .int .i64 b]) ∧ Below w.heap.size w w'
def P3 (a b c : Int) (w : World) (e : Ending) (w' : World) : Prop := e = .returned (.tuple #[.int .i64 a, .int .i64 b, .int .i64 c]) ∧ Below w.heap.size w w'

def joinN (x y : Int) : Int := if mayB x y then 4096 * y + x else 0
def joinE (x y : Int) : Int := if mayB x y then 0 else 1
theorem join_on {x y : Int} (h : mayB x y = true) : joinN x y = 4096 * y + x ∧ joinE x y = 0 := by simp [joinN, joinE, h]
theorem join_off {x y : Int} (h : mayB x y = false) : joinN x y = 0 ∧ joinE x y = 1 := by simp [joinN, joinE, h]
theorem mayB_in {x y : Int} (h : mayB x y = true) : 0 ≤ x ∧ x ≤ 4095 ∧ 1 ≤ y ∧ y ≤ 1023 := of_decide_eq_true h
theorem mayB_out {x y : Int} (h : mayB x y = false) : ¬ (0 ≤ x ∧ x ≤ 4095 ∧ 1 ≤ y ∧ y ≤ 1023) := of_decide_eq_false h

theorem join_any (x y : Int) (w : World) (h : Bd w) : Calls Tryd.prog 26 #[.int .i64 x, .int .i64 y] w (P2 (joinN x y) (joinE x y) w) := by
  have HM := may09_any x y w h
  cases hm : mayB x y with
  | false =>
    obtain ⟨e1, e2⟩ := join_off hm
    rw [e1, e2]
    rw [hm] at HM
    have H := Lib.hid HM
    clear HM hm e1 e2 h
    go_enter Tryd.func26, Tryd.ntmps26
    go_wp2_with fail
    refine H.out.mono ?_
    rintro e w' ⟨rfl, b⟩
    have HB := Lib.hid b
    clear b
    go_wp2
    go_ret2
    exact ⟨rfl, HB.out⟩
  | true =>
    obtain ⟨e1, e2⟩ := join_on hm
    obtain ⟨r1, r2, r3, r4⟩ := mayB_in hm
    rw [e1, e2]
    rw [hm] at HM
    have H := Lib.hid HM
    have hw : IntKind.i64.wrap (y * 4096) = 4096 * y := by rw [IntWalk.i64_in _ (by omega)]; omega
    have hw2 : IntKind.i64.wrap (4096 * y + x) = 4096 * y + x := IntWalk.i64_in _ (by omega)
    clear HM hm e1 e2 h
    go_enter Tryd.func26, Tryd.ntmps26
    go_wp2_with fail
    refine H.out.mono ?_
    rintro e w' ⟨rfl, b⟩
    have HB := Lib.hid b
    clear b
    go_wp2
    go_ret2
    refine ⟨?_, HB.out⟩
    first | rfl | (rw [Int.mul_comm])

/-- Whether a number is a handle. -/
def handB (h : Int) : Bool := decide (4096 ≤ h ∧ h ≤ 4194303)
def splitS (h : Int) : Int := if handB h then h % 4096 else 0
def splitG (h : Int) : Int := if handB h then h / 4096 else 0
def splitE (h : Int) : Int := if handB h then 0 else 7
theorem split_on {h : Int} (q : handB h = true) : splitS h = h % 4096 ∧ splitG h = h / 4096 ∧ splitE h = 0 := by simp [splitS, splitG, splitE, q]
theorem split_off {h : Int} (q : handB h = false) : splitS h = 0 ∧ splitG h = 0 ∧ splitE h = 7 := by simp [splitS, splitG, splitE, q]
theorem handB_in {h : Int} (q : handB h = true) : 4096 ≤ h ∧ h ≤ 4194303 := of_decide_eq_true q
theorem handB_out {h : Int} (q : handB h = false) : ¬ (4096 ≤ h ∧ h ≤ 4194303) := of_decide_eq_false q

theorem quo_neg {h : Int} (hn : h < 0) : h.tdiv 4096 ≤ 0 ∧ h ≤ h.tdiv 4096 := by
  obtain ⟨n, rfl⟩ : ∃ n : Int, h = -n := ⟨-h, by omega⟩
  rw [Int.neg_tdiv, Int.tdiv_eq_ediv_of_nonneg (by omega)]
  omega

theorem split_any (h : Int) (w : World) (hb : Bd w) (l1 : -9223372036854775808 ≤ h) (l2 : h ≤ 9223372036854775807) : Calls Tryd.prog 22 #[.int .i64 h] w (P3 (splitS h) (splitG h) (splitE h) w) := by
  by_cases hn : h < 0
  · obtain ⟨s, hs⟩ : ∃ s, h.tmod 4096 = s := ⟨_, rfl⟩
    obtain ⟨g, hg⟩ : ∃ g, h.tdiv 4096 = g := ⟨_, rfl⟩
    obtain ⟨q1, q2⟩ := quo_neg hn
    rw [hg] at q1 q2
    have hw : IntKind.i64.wrap g = g := IntWalk.i64_in _ (by omega)
    have HM := may09_any s g w hb
    rw [mayB_off (by omega)] at HM
    obtain ⟨e1, e2, e3⟩ := split_off (h := h) (decide_eq_false (by omega))
    rw [e1, e2, e3]
    have H := Lib.hid HM
    clear HM e1 e2 e3 hb q1 q2
    go_enter Tryd.func22, Tryd.ntmps22
    go_wp2_with fail
    refine H.out.mono ?_
    rintro e w' ⟨rfl, b⟩
    have HB := Lib.hid b
    clear b
    go_wp2
    go_ret3
    exact ⟨rfl, HB.out⟩
  · obtain ⟨s, hs⟩ : ∃ s, h % 4096 = s := ⟨_, rfl⟩
    obtain ⟨g, hg⟩ : ∃ g, h / 4096 = g := ⟨_, rfl⟩
    have hs2 : h.tmod 4096 = s := by rw [Int.tmod_eq_emod_of_nonneg (by omega), hs]
    have hg2 : h.tdiv 4096 = g := by rw [Int.tdiv_eq_ediv_of_nonneg (by omega), hg]
    have hw : IntKind.i64.wrap g = g := IntWalk.i64_in _ (by omega)
    have HM := may09_any s g w hb
    cases hq : handB h with
    | true =>
      obtain ⟨r1, r2⟩ := handB_in hq
      rw [mayB_on (by omega)] at HM
      obtain ⟨e1, e2, e3⟩ := split_on hq
      rw [e1, e2, e3, hs, hg]
      have H := Lib.hid HM
      clear HM e1 e2 e3 hb hq
      go_enter Tryd.func22, Tryd.ntmps22
      go_wp2_with fail
      refine H.out.mono ?_
      rintro e w' ⟨rfl, b⟩
      have HB := Lib.hid b
      clear b
      go_wp2
      go_ret3
      exact ⟨rfl, HB.out⟩
    | false =>
      have r := handB_out hq
      rw [mayB_off (by omega)] at HM
      obtain ⟨e1, e2, e3⟩ := split_off hq
      rw [e1, e2, e3]
      have H := Lib.hid HM
      clear HM e1 e2 e3 hb hq r
      go_enter Tryd.func22, Tryd.ntmps22
      go_wp2_with fail
      refine H.out.mono ?_
      rintro e w' ⟨rfl, b⟩
      have HB := Lib.hid b
      clear b
      go_wp2
      go_ret3
      exact ⟨rfl, HB.out⟩
end Go.Proofs.YtelhhhmmkdbagaaDoor
