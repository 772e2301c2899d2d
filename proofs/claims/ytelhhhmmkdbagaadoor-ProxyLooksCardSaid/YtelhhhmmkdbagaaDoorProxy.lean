/-
  Package proxy, its ground: what a Table is in memory ('Tm'), free slots threaded through one another; and the contracts of slot, count, Left, Live, turn, Look.
-/
import Derived.Test.YtelhhhmmkdbagaaDoorProxyNum
import Derived.Test.YtelhhhmmkdbagaaDoorQuietImp
import Derived.Test.YtelhhhmmkdbagaaDoorRegImp
namespace Go.Proofs.YtelhhhmmkdbagaaDoor
open Go.ChangeShapes Go.WideShapes Go.ChangeAt Go.RowKit

/-- A function value that tells a slot. -/
abbrev tell (v : Int) : Value := .func (.func 25) #[.int .i64 v] #[]
def Nx (t : Value) : Prop := t = .nilFunc ∨ ∃ v, t = tell v
/-- Each free slot tells the one behind it. -/
def Thr (w : World) (a K : Nat) : List Int → Prop
  | [] => True
  | x :: r => w.cell? ⟨a, x.toNat * 3 + 2, none⟩ = some (tell (hd K r)) ∧ Thr w a K r
/-- Block p is a Table of K slots in block a, each of three cells (kind, generation, next); the bounds of package ident stand. -/
structure Tm (w : World) (p a K : Nat) (M : Int) (T : Tb) : Prop where
  wf : Tw K M T
  bd : Bd w
  c0 : w.cell? ⟨p, 0, none⟩ = some (.slice (some ⟨a, 0, none⟩) K K)
  c1 : w.cell? ⟨p, 1, none⟩ = some (.int .i64 M)
  c2 : w.cell? ⟨p, 2, none⟩ = some (.int .i64 (hd K T.fl))
  c3 : w.cell? ⟨p, 3, none⟩ = some (.int .i64 (T.fl.length : Int))
  c4 : w.cell? ⟨p, 4, none⟩ = some (.int .i64 (T.L.count true : Int))
  c5 : w.cell? ⟨p, 5, none⟩ = some (.int .i64 ((K - T.fl.length - T.L.count true : Nat) : Int))
  fp : ∀ q, q < 6 → w.frozen? ⟨p, q, none⟩ = false
  ci : ∀ (k : Nat) (g : Int) (b : Bool), T.G[k]? = some g → T.L[k]? = some b → w.cell? ⟨a, k * 3, none⟩ = some (.int .i64 (kindOf M g b)) ∧ w.cell? ⟨a, k * 3 + 1, none⟩ = some (.int .i64 g)
  ct : ∀ k, k < K → ∃ t, w.cell? ⟨a, k * 3 + 2, none⟩ = some t ∧ Nx t
  fo : ∀ q, q < K * 3 → w.frozen? ⟨a, q, none⟩ = false
  th : Thr w a K T.fl
  pa : p ≠ a
  p0 : p ≠ 0
  a0 : a ≠ 0
  k1 : 1 ≤ K
  k2 : K ≤ 4096
  m1 : 1 ≤ M
  m2 : M ≤ 1023
/-- What a call may turn. -/
def Own (p a : Nat) (i : Nat) : Prop := i = p ∨ i = a
section
variable {w w' : World} {p a K : Nat} {M : Int} {T : Tb} {fl r : List Int}
theorem Bd.but {S : Nat → Prop} (h : Bd w) (hb : But S w w') (h0 : ¬ S 0) : Bd w' :=
  have hp := h.pos
  ⟨(hb.cell (p := ⟨0, 0, none⟩) hp h0).trans h.c0, (hb.cell (p := ⟨0, 1, none⟩) hp h0).trans h.c1, (hb.cell (p := ⟨0, 2, none⟩) hp h0).trans h.c2, (hb.cell (p := ⟨0, 3, none⟩) hp h0).trans h.c3⟩
theorem Thr.keep (h : Thr w a K fl) (ha : ∀ x ∈ fl, ∀ t, w.cell? ⟨a, x.toNat * 3 + 2, none⟩ = some t → w'.cell? ⟨a, x.toNat * 3 + 2, none⟩ = some t) : Thr w' a K fl := by
  induction fl with
  | nil => trivial
  | cons x r ih => exact ⟨ha x (by simp) _ h.1, ih h.2 (fun y hy => ha y (by simp [hy]))⟩
theorem Tm.psize (h : Tm w p a K M T) : p < w.heap.size := lt_of_cell (p := ⟨p, 0, none⟩) h.c0
theorem Tm.asize (h : Tm w p a K M T) : a < w.heap.size := by
  obtain ⟨t, ht, _⟩ := h.ct 0 (by have := h.k1; omega)
  exact lt_of_cell (p := ⟨a, 0 * 3 + 2, none⟩) ht
theorem Tm.but {S : Nat → Prop} (h : Tm w p a K M T) (hb : But S w w') (hp : ¬ S p) (hA : ¬ S a) (h0 : ¬ S 0) : Tm w' p a K M T :=
  have hps := h.psize
  have has := h.asize
  ⟨h.wf, h.bd.but hb h0, (hb.cell (p := ⟨p, 0, none⟩) hps hp).trans h.c0, (hb.cell (p := ⟨p, 1, none⟩) hps hp).trans h.c1, (hb.cell (p := ⟨p, 2, none⟩) hps hp).trans h.c2,
    (hb.cell (p := ⟨p, 3, none⟩) hps hp).trans h.c3, (hb.cell (p := ⟨p, 4, none⟩) hps hp).trans h.c4, (hb.cell (p := ⟨p, 5, none⟩) hps hp).trans h.c5,
    fun q hq => (hb.frozen (p := ⟨p, q, none⟩) hps hp).trans (h.fp q hq),
    fun k g b hg hl => ⟨(hb.cell (p := ⟨a, k * 3, none⟩) has hA).trans (h.ci k g b hg hl).1, (hb.cell (p := ⟨a, k * 3 + 1, none⟩) has hA).trans (h.ci k g b hg hl).2⟩,
    fun k hk => by obtain ⟨t, ht, hn⟩ := h.ct k hk; exact ⟨t, (hb.cell (p := ⟨a, k * 3 + 2, none⟩) has hA).trans ht, hn⟩,
    fun q hq => (hb.frozen (p := ⟨a, q, none⟩) has hA).trans (h.fo q hq),
    h.th.keep (fun x _ _ ht => (hb.cell (p := ⟨a, x.toNat * 3 + 2, none⟩) has hA).trans ht),
    h.pa, h.p0, h.a0, h.k1, h.k2, h.m1, h.m2⟩
theorem Tm.below (h : Tm w p a K M T) (hb : Below w.heap.size w w') : Tm w' p a K M T := h.but (Below.but hb fun _ => False) id id id
theorem Own.below {w0 : World} (h : But (Own p a) w w') (hB : w0.heap.size ≤ w.heap.size) (hp : w0.heap.size ≤ p) (ha : w0.heap.size ≤ a) : Below w0.heap.size w w' :=
  h.below hB fun k hk e => by rcases e with e | e <;> omega
end

theorem slot_any (v : Int) (w : World) : Calls Tryd.prog 25 #[.int .i64 v] w (R1 v w) := by
  go_enter Tryd.func25, Tryd.ntmps25
  go_wp2
  go_ret
  exact ⟨rfl, rfl⟩
section
variable {w : World} {p a K : Nat} {M : Int} {T : Tb}
theorem left_any (h : Tm w p a K M T) : Calls Tryd.prog 12 #[.pointer (some ⟨p, 0, none⟩)] w (R1 (T.fl.length : Int) w) := by
  have HC : Hid (Calls Tryd.prog 24 #[.pointer (some ⟨p, 0, none⟩), .int .i64 0] w (R1 (T.fl.length : Int) w)) := Lib.hid (by
    have h0 := h.c3
    clear h
    go_enter Tryd.func24, Tryd.ntmps24
    go_wp2
    go_ret
    exact ⟨rfl, rfl⟩)
  clear h
  go_enter Tryd.func12, Tryd.ntmps12
  go_wp2_with fail
  refine HC.out.mono ?_
  rintro e w' ⟨rfl, rfl⟩
  go_wp2
  go_ret
  exact ⟨rfl, rfl⟩
theorem live_any (h : Tm w p a K M T) : Calls Tryd.prog 13 #[.pointer (some ⟨p, 0, none⟩)] w (R1 (T.L.count true : Int) w) := by
  have HC : Hid (Calls Tryd.prog 24 #[.pointer (some ⟨p, 0, none⟩), .int .i64 1] w (R1 (T.L.count true : Int) w)) := Lib.hid (by
    have h0 := h.c4
    clear h
    go_enter Tryd.func24, Tryd.ntmps24
    go_wp2
    go_ret
    exact ⟨rfl, rfl⟩)
  clear h
  go_enter Tryd.func13, Tryd.ntmps13
  go_wp2_with fail
  refine HC.out.mono ?_
  rintro e w' ⟨rfl, rfl⟩
  go_wp2
  go_ret
  exact ⟨rfl, rfl⟩
end

/-! ### turn -/
/-- Behind turn: a slot of kind i is of kind j. -/
def turned (w : World) (p a k i j : Nat) (x y : Int) : World :=
  ((w.setCell ⟨p, 3 + i, none⟩ (.int .i64 (x - 1))).setCell ⟨a, k * 3, none⟩ (.int .i64 (j : Int))).setCell ⟨p, 3 + j, none⟩ (.int .i64 (y + 1))
def TurnEnds (p a k i j : Nat) (x y : Int) (w : World) (e : Ending) (w' : World) : Prop := e = .returned (.tuple #[]) ∧ ∃ d, w' = (turned w p a k i j x y).drewN d
section
variable {w : World} {p a k : Nat} {x y : Int}
set_option maxHeartbeats 1000000 in
theorem turn_01 (hpa : p ≠ a) (cx : w.cell? ⟨p, 3, none⟩ = some (.int .i64 x)) (cy : w.cell? ⟨p, 4, none⟩ = some (.int .i64 y)) (ck : w.cell? ⟨a, k * 3, none⟩ = some (.int .i64 0))
    (fx : w.frozen? ⟨p, 3, none⟩ = false) (fy : w.frozen? ⟨p, 4, none⟩ = false) (fk : w.frozen? ⟨a, k * 3, none⟩ = false) (hx : 1 ≤ x ∧ x ≤ 4096) (hy : 0 ≤ y ∧ y ≤ 4096) :
    Calls Tryd.prog 27 #[.pointer (some ⟨p, 0, none⟩), .pointer (some ⟨a, k * 3, none⟩), .int .i64 1] w (TurnEnds p a k 0 1 x y w) := by
  have wx : IntKind.i64.wrap (x - 1) = x - 1 := IntWalk.i64_in _ (by omega)
  have wy : IntKind.i64.wrap (y + 1) = y + 1 := IntWalk.i64_in _ (by omega)
  have hap : ¬ a = p := fun q => hpa q.symm
  unfold TurnEnds turned
  go_enter Tryd.func27, Tryd.ntmps27
  go_wp2
  go_region
  go_wp2
  go_region
  go_wp2
  first | go_end0 | refine bodyPost_ret (results_none rfl _ _ _) rfl ?_
  exact ⟨rfl, 2, rfl⟩
set_option maxHeartbeats 1000000 in
theorem turn_10 (hpa : p ≠ a) (cx : w.cell? ⟨p, 4, none⟩ = some (.int .i64 x)) (cy : w.cell? ⟨p, 3, none⟩ = some (.int .i64 y)) (ck : w.cell? ⟨a, k * 3, none⟩ = some (.int .i64 1))
    (fx : w.frozen? ⟨p, 4, none⟩ = false) (fy : w.frozen? ⟨p, 3, none⟩ = false) (fk : w.frozen? ⟨a, k * 3, none⟩ = false) (hx : 1 ≤ x ∧ x ≤ 4096) (hy : 0 ≤ y ∧ y ≤ 4096) :
    Calls Tryd.prog 27 #[.pointer (some ⟨p, 0, none⟩), .pointer (some ⟨a, k * 3, none⟩), .int .i64 0] w (TurnEnds p a k 1 0 x y w) := by
  have wx : IntKind.i64.wrap (x - 1) = x - 1 := IntWalk.i64_in _ (by omega)
  have wy : IntKind.i64.wrap (y + 1) = y + 1 := IntWalk.i64_in _ (by omega)
  have hap : ¬ a = p := fun q => hpa q.symm
  unfold TurnEnds turned
  go_enter Tryd.func27, Tryd.ntmps27
  go_wp2
  go_region
  go_wp2
  go_region
  go_wp2
  first | go_end0 | refine bodyPost_ret (results_none rfl _ _ _) rfl ?_
  exact ⟨rfl, 2, rfl⟩
set_option maxHeartbeats 1000000 in
theorem turn_12 (hpa : p ≠ a) (cx : w.cell? ⟨p, 4, none⟩ = some (.int .i64 x)) (cy : w.cell? ⟨p, 5, none⟩ = some (.int .i64 y)) (ck : w.cell? ⟨a, k * 3, none⟩ = some (.int .i64 1))
    (fx : w.frozen? ⟨p, 4, none⟩ = false) (fy : w.frozen? ⟨p, 5, none⟩ = false) (fk : w.frozen? ⟨a, k * 3, none⟩ = false) (hx : 1 ≤ x ∧ x ≤ 4096) (hy : 0 ≤ y ∧ y ≤ 4096) :
    Calls Tryd.prog 27 #[.pointer (some ⟨p, 0, none⟩), .pointer (some ⟨a, k * 3, none⟩), .int .i64 2] w (TurnEnds p a k 1 2 x y w) := by
  have wx : IntKind.i64.wrap (x - 1) = x - 1 := IntWalk.i64_in _ (by omega)
  have wy : IntKind.i64.wrap (y + 1) = y + 1 := IntWalk.i64_in _ (by omega)
  have hap : ¬ a = p := fun q => hpa q.symm
  unfold TurnEnds turned
  go_enter Tryd.func27, Tryd.ntmps27
  go_wp2
  go_region
  go_wp2
  go_region
  go_wp2
  first | go_end0 | refine bodyPost_ret (results_none rfl _ _ _) rfl ?_
  exact ⟨rfl, 2, rfl⟩
end

/-! ### Look -/
section
variable {w : World} {p a K : Nat} {M : Int} {T : Tb} {n : Int}
theorem look_any (h : Tm w p a K M T) (l1 : -9223372036854775808 ≤ n) (l2 : n ≤ 9223372036854775807) :
    Calls Tryd.prog 10 #[.pointer (some ⟨p, 0, none⟩), .int .i64 n] w (P2 (lookOut T n).1 (lookOut T n).2 w) := by
  have HS := split_any n w h.bd l1 l2
  cases q : handB n with
  | false =>
    rw [look_bad q]
    obtain ⟨e1, e2, e3⟩ := split_off q
    rw [e1, e2, e3] at HS
    have H := Lib.hid HS
    clear h HS e1 e2 e3 q
    go_enter Tryd.func10, Tryd.ntmps10
    go_wp2_with fail
    refine H.out.mono ?_
    rintro e w' ⟨rfl, b⟩
    have HB := Lib.hid b
    clear b
    go_wp2
    go_ret2
    exact ⟨rfl, HB.out⟩
  | true =>
    obtain ⟨r1, r2⟩ := handB_in q
    obtain ⟨e1, e2, e3⟩ := split_on q
    obtain ⟨k, ek⟩ : ∃ k : Nat, n % 4096 = (k : Int) := ⟨(n % 4096).toNat, by omega⟩
    rw [e1, e2, e3, ek] at HS
    have H := Lib.hid HS
    have k2 := h.k2
    by_cases hk : k < K
    · obtain ⟨g, b, hg, hb⟩ := h.wf.ofK hk
      obtain ⟨t, ct, hn⟩ := h.ct k hk
      obtain ⟨ci, cg⟩ := h.ci k g b hg hb
      have c0 := h.c0
      have dk : decide ((K : Int) ≤ (k : Int)) = false := decide_eq_false (by omega)
      have hst : ∀ (q : Addr) (m : Mode) (u : World), (store q .nilFunc m).run Tryd.prog u = stored Tryd.prog u q .nilFunc m := fun q m u => run_store Tryd.prog u q _ m rfl
      have hst2 : ∀ (q : Addr) (fn : Fn) (s c : Array Value) (m : Mode) (u : World), (store q (.func fn s c) m).run Tryd.prog u = stored Tryd.prog u q (.func fn s c) m := fun q fn s c m u => run_store Tryd.prog u q _ m rfl
      have EQ : Hid (lookOut T n = if n / 4096 < g then (0, 6) else if g < n / 4096 then (0, 7) else if b = true then ((k : Int), 0) else (0, 7)) := Lib.hid (by
        split
        · exact look_old q ek hg (by assumption)
        · split
          · exact look_new q ek hg (by assumption)
          · cases b with
            | true => rw [look_on q ek hg (by omega) hb]; rfl
            | false => rw [look_off q ek hg (by omega) hb]; rfl)
      have HW := Lib.hid h
      generalize n / 4096 = y at H EQ
      obtain ⟨κ, hκ⟩ : ∃ κ, κ = kindOf M g b := ⟨_, rfl⟩
      rw [← hκ] at ci
      have HK := Lib.hid hκ
      clear hg hb HS e1 e2 e3 ek q h hκ
      by_cases d1 : y < g
      · have dd : decide (y < g) = true := decide_eq_true d1
        rw [EQ.out, if_pos d1]
        clear EQ
        rcases hn with rfl | ⟨v, rfl⟩
        all_goals
          go_enter Tryd.func10, Tryd.ntmps10
          go_wp2_with fail
          refine H.out.mono ?_
          rintro e w' ⟨rfl, bb⟩
          have HB := Lib.hid bb
          have z0 := (bb.cell (p := ⟨p, 0, none⟩) HW.out.psize).trans c0
          have z1 := (bb.cell (p := ⟨a, k * 3, none⟩) HW.out.asize).trans ci
          have z2 := (bb.cell (p := ⟨a, k * 3 + 1, none⟩) HW.out.asize).trans cg
          have z3 := (bb.cell (p := ⟨a, k * 3 + 2, none⟩) HW.out.asize).trans ct
          clear bb c0 ci cg ct
          go_wp2
          go_ret2
          exact ⟨rfl, belowT HB.out (below1 _ _)⟩
      · have dd : decide (y < g) = false := decide_eq_false d1
        rw [EQ.out, if_neg d1]
        by_cases d2 : g < y
        · have dd2 : decide (g < y) = true := decide_eq_true d2
          rw [if_pos d2]
          clear EQ
          rcases hn with rfl | ⟨v, rfl⟩
          all_goals
            go_enter Tryd.func10, Tryd.ntmps10
            go_wp2_with fail
            refine H.out.mono ?_
            rintro e w' ⟨rfl, bb⟩
            have HB := Lib.hid bb
            have z0 := (bb.cell (p := ⟨p, 0, none⟩) HW.out.psize).trans c0
            have z1 := (bb.cell (p := ⟨a, k * 3, none⟩) HW.out.asize).trans ci
            have z2 := (bb.cell (p := ⟨a, k * 3 + 1, none⟩) HW.out.asize).trans cg
            have z3 := (bb.cell (p := ⟨a, k * 3 + 2, none⟩) HW.out.asize).trans ct
            clear bb c0 ci cg ct
            go_wp2
            go_ret2
            exact ⟨rfl, belowT HB.out (below1 _ _)⟩
        · have dd2 : decide (g < y) = false := decide_eq_false d2
          rw [if_neg d2]
          cases b with
          | true =>
            rw [if_pos rfl]
            obtain rfl : κ = 1 := HK.out
            clear EQ
            rcases hn with rfl | ⟨v, rfl⟩
            all_goals
              go_enter Tryd.func10, Tryd.ntmps10
              go_wp2_with fail
              refine H.out.mono ?_
              rintro e w' ⟨rfl, bb⟩
              have HB := Lib.hid bb
              have z0 := (bb.cell (p := ⟨p, 0, none⟩) HW.out.psize).trans c0
              have z1 := (bb.cell (p := ⟨a, k * 3, none⟩) HW.out.asize).trans ci
              have z2 := (bb.cell (p := ⟨a, k * 3 + 1, none⟩) HW.out.asize).trans cg
              have z3 := (bb.cell (p := ⟨a, k * 3 + 2, none⟩) HW.out.asize).trans ct
              clear bb c0 ci cg ct
              go_wp2
              go_ret2
              exact ⟨rfl, belowT HB.out (below1 _ _)⟩
          | false =>
            rw [if_neg (by simp)]
            have hne : (κ != 1) = true := by
              rw [HK.out]
              unfold kindOf
              split
              · simp at *
              · split <;> rfl
            clear EQ
            rcases hn with rfl | ⟨v, rfl⟩
            all_goals
              go_enter Tryd.func10, Tryd.ntmps10
              go_wp2_with fail
              refine H.out.mono ?_
              rintro e w' ⟨rfl, bb⟩
              have HB := Lib.hid bb
              have z0 := (bb.cell (p := ⟨p, 0, none⟩) HW.out.psize).trans c0
              have z1 := (bb.cell (p := ⟨a, k * 3, none⟩) HW.out.asize).trans ci
              have z2 := (bb.cell (p := ⟨a, k * 3 + 1, none⟩) HW.out.asize).trans cg
              have z3 := (bb.cell (p := ⟨a, k * 3 + 2, none⟩) HW.out.asize).trans ct
              clear bb c0 ci cg ct
              go_wp2
              go_ret2
              exact ⟨rfl, belowT HB.out (below1 _ _)⟩
    · rw [look_far q ek (List.getElem?_eq_none (by rw [h.wf.lg]; omega))]
      have c0 := h.c0
      have HW := Lib.hid h
      have dk : decide ((K : Int) ≤ (k : Int)) = true := decide_eq_true (by omega)
      clear h HS e1 e2 e3 ek q
      generalize n / 4096 = y at H
      go_enter Tryd.func10, Tryd.ntmps10
      go_wp2_with fail
      refine H.out.mono ?_
      rintro e w' ⟨rfl, bb⟩
      have HB := Lib.hid bb
      have z0 := (bb.cell (p := ⟨p, 0, none⟩) HW.out.psize).trans c0
      clear bb c0
      go_wp2
      go_ret2
      exact ⟨rfl, HB.out⟩
end
end Go.Proofs.YtelhhhmmkdbagaaDoor
