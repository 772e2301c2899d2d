import Derived.Test.YtfkegbipfekbdaaZRmGo
import Derived.Test.YtfkegbipfekbdaaZShPlan
import Derived.Lib.MinMax
/-
  Package room: shelf, count, Open, Used, Held, Owner, Own, Plan; and of a room that is nil.
-/
namespace Go.Proofs.Ytfkegbipfekbdaa.Room
open Go.ChangeShapes Go.WideShapes Go.ChangeAt Go.RowKit
open Sh (Shl Ps Sw Uw Sr Sm Fx Adr Lab Nxt Far nums usedS mem_nums planV VB)
set_option maxRecDepth 100000

section
variable {w : World} {y : Gx} {x : Nat → Fx} {A : Nat → Adr} {lab : Nat → Lab} {V : Int → Value} {Q : Nat → Prop} {r : Rom}
/-- It returns the value v, and the world is as it was. -/
def V1 (v : Value) (w : World) (e : Ending) (w' : World) : Prop := e = .returned v ∧ w = w'
theorem gshelf_in (h : Gc w y x) {k : Nat} (hk : k < y.c.cn) : Calls Try.prog 36 #[.pointer (some ⟨y.g, 0, none⟩), .int .i64 (k : Int)] w (V1 (.pointer (some ⟨(x k).s, 0, none⟩)) w) := by
  have k2 := h.k2
  have kr := h.row k hk
  have d0 : decide ((k : Int) < 0) = false := decide_eq_false (by omega)
  have d1 : decide ((y.c.cn : Int) ≤ (k : Int)) = false := decide_eq_false (by omega)
  clear h
  go_enter Try.func36, Try.ntmps36
  go_wp2
  go_ret
  exact ⟨rfl, rfl⟩
theorem gshelf_out (h : Gc w y x) {k : Int} (hk : ¬ (0 ≤ k ∧ k < (y.c.cn : Int))) : Calls Try.prog 36 #[.pointer (some ⟨y.g, 0, none⟩), .int .i64 k] w (V1 (.pointer none) w) := by
  have k2 := h.k2
  by_cases h0 : k < 0
  · have d0 : decide (k < 0) = true := decide_eq_true h0
    clear h hk
    go_enter Try.func36, Try.ntmps36
    go_wp2
    go_ret
    exact ⟨rfl, rfl⟩
  · have d0 : decide (k < 0) = false := decide_eq_false h0
    have d1 : decide ((y.c.cn : Int) ≤ k) = true := decide_eq_true (by omega)
    clear h hk h0
    go_enter Try.func36, Try.ntmps36
    go_wp2
    go_ret
    exact ⟨rfl, rfl⟩
theorem gshelf_nil (k : Int) (w : World) : Calls Try.prog 36 #[.pointer none, .int .i64 k] w (V1 (.pointer none) w) := by
  go_enter Try.func36, Try.ntmps36
  go_wp2
  go_ret
  exact ⟨rfl, rfl⟩
theorem no_isK (h : Gm w y x A lab V Q r) {k : Int} (hk : ¬ isK r k = true) : ¬ (0 ≤ k ∧ k < (y.c.cn : Int)) := fun q => hk (isK_true.2 ⟨q.1, by rw [h.wf.len]; exact q.2⟩)
/-- A class's shelf, or none: what is asked of it. -/
theorem ask_of {T : Int → Prop} (h : Gm w y x A lab V Q r) (k : Int) (h1 : ∀ j : Nat, j < y.c.cn → isK r (j : Int) = true → T (j : Int)) (h2 : ¬ isK r k = true → T k) : T k := by
  by_cases hk : isK r k = true
  · obtain ⟨j, rfl, hj⟩ := isK_nat h.wf hk
    exact h1 j hj hk
  · exact h2 hk
theorem gcount_open (p : Option Addr) (k z : Int) (q : Option Addr) (w : World) (h : Calls Try.prog 36 #[.pointer p, .int .i64 k] w (V1 (.pointer q) w)) (h2 : Calls Try.prog 31 #[.pointer q] w (R1 z w)) : Calls Try.prog 30 #[.pointer p, .int .i64 k, .func (.func 31) #[] #[]] w (R1 z w) := by
  have H := Lib.hid h
  have H2 := Lib.hid h2
  clear h h2
  go_enter Try.func30, Try.ntmps30
  go_wp2_with fail
  refine H.out.mono ?_
  rintro e w' ⟨rfl, rfl⟩
  go_wp2_with fail
  refine H2.out.mono ?_
  rintro e w' ⟨rfl, rfl⟩
  go_wp2
  go_ret
  exact ⟨rfl, rfl⟩
theorem gopen_of (p : Option Addr) (k z : Int) (q : Option Addr) (w : World) (h : Calls Try.prog 36 #[.pointer p, .int .i64 k] w (V1 (.pointer q) w)) (h2 : Calls Try.prog 31 #[.pointer q] w (R1 z w)) : Calls Try.prog 9 #[.pointer p, .int .i64 k] w (R1 z w) := by
  have H := Lib.hid (gcount_open p k z q w h h2)
  clear h h2
  go_enter Try.func9, Try.ntmps9
  go_wp2_with fail
  refine H.out.mono ?_
  rintro e w' ⟨rfl, rfl⟩
  go_wp2
  go_ret
  exact ⟨rfl, rfl⟩
theorem gopen_any (h : Gm w y x A lab V Q r) (k : Int) : Calls Try.prog 9 #[.pointer (some ⟨y.g, 0, none⟩), .int .i64 k] w (R1 (openR r k) w) := by
  refine ask_of h (T := fun k => Calls Try.prog 9 #[.pointer (some ⟨y.g, 0, none⟩), .int .i64 k] w (R1 (openR r k) w)) k (fun j hj hk => ?_) (fun hk => ?_)
  · have e : openR r (j : Int) = ((shelf r j).op.length : Int) := by unfold openR; rw [if_pos hk, Int.toNat_natCast]
    rw [e]
    exact gopen_of _ _ _ _ w (gshelf_in h.cl hj) (Sh.open_any (h.shv.each j hj))
  · have e : openR r k = 0 := by unfold openR; rw [if_neg hk]
    rw [e]
    exact gopen_of _ _ _ _ w (gshelf_out h.cl (no_isK h hk)) (Sh.open_nil w)
theorem gopen_nil (k : Int) (w : World) : Calls Try.prog 9 #[.pointer none, .int .i64 k] w (R1 0 w) := gopen_of _ _ _ _ w (gshelf_nil k w) (Sh.open_nil w)
theorem gcount_used (p : Option Addr) (k z : Int) (q : Option Addr) (w : World) (h : Calls Try.prog 36 #[.pointer p, .int .i64 k] w (V1 (.pointer q) w)) (h2 : Calls Try.prog 46 #[.pointer q] w (R1 z w)) : Calls Try.prog 30 #[.pointer p, .int .i64 k, .func (.func 46) #[] #[]] w (R1 z w) := by
  have H := Lib.hid h
  have H2 := Lib.hid h2
  clear h h2
  go_enter Try.func30, Try.ntmps30
  go_wp2_with fail
  refine H.out.mono ?_
  rintro e w' ⟨rfl, rfl⟩
  go_wp2_with fail
  refine H2.out.mono ?_
  rintro e w' ⟨rfl, rfl⟩
  go_wp2
  go_ret
  exact ⟨rfl, rfl⟩
theorem gused_of (p : Option Addr) (k z : Int) (q : Option Addr) (w : World) (h : Calls Try.prog 36 #[.pointer p, .int .i64 k] w (V1 (.pointer q) w)) (h2 : Calls Try.prog 46 #[.pointer q] w (R1 z w)) : Calls Try.prog 18 #[.pointer p, .int .i64 k] w (R1 z w) := by
  have H := Lib.hid (gcount_used p k z q w h h2)
  clear h h2
  go_enter Try.func18, Try.ntmps18
  go_wp2_with fail
  refine H.out.mono ?_
  rintro e w' ⟨rfl, rfl⟩
  go_wp2
  go_ret
  exact ⟨rfl, rfl⟩
theorem gused_any (h : Gm w y x A lab V Q r) (k : Int) : Calls Try.prog 18 #[.pointer (some ⟨y.g, 0, none⟩), .int .i64 k] w (R1 (usedR r k) w) := by
  refine ask_of h (T := fun k => Calls Try.prog 18 #[.pointer (some ⟨y.g, 0, none⟩), .int .i64 k] w (R1 (usedR r k) w)) k (fun j hj hk => ?_) (fun hk => ?_)
  · have e : usedR r (j : Int) = (usedS (shelf r j).ps : Int) := by unfold usedR; rw [if_pos hk, Int.toNat_natCast]
    rw [e]
    exact gused_of _ _ _ _ w (gshelf_in h.cl hj) (Sh.used_any (h.shv.each j hj))
  · have e : usedR r k = 0 := by unfold usedR; rw [if_neg hk]
    rw [e]
    exact gused_of _ _ _ _ w (gshelf_out h.cl (no_isK h hk)) (Sh.used_nil w)
theorem gused_nil (k : Int) (w : World) : Calls Try.prog 18 #[.pointer none, .int .i64 k] w (R1 0 w) := gused_of _ _ _ _ w (gshelf_nil k w) (Sh.used_nil w)
theorem gheld_any (h : Gm w y x A lab V Q r) : Calls Try.prog 8 #[.pointer (some ⟨y.g, 0, none⟩)] w (RQ (heldR r) w) := by
  have k1 := h.cl.k1
  have e : (y.K : Int) - (r.fl.length : Int) = heldR r := by have := h.wf.pool.len; unfold heldR; omega
  have H := Lib.hid (Pl.held_any h.pool)
  rw [e] at H
  clear h e
  go_enter Try.func8, Try.ntmps8
  go_wp2_with fail
  refine H.out.mono ?_
  rintro e w' ⟨rfl, n, rfl⟩
  go_wp2
  go_ret
  exact ⟨rfl, n, rfl⟩
theorem gheld_nil (w : World) : Calls Try.prog 8 #[.pointer none] w (R1 0 w) := by
  go_enter Try.func8, Try.ntmps8
  go_wp2
  go_ret
  exact ⟨rfl, rfl⟩
theorem gowner_of (p : Option Addr) (k n i z : Int) (q : Option Addr) (w : World) (h : Calls Try.prog 36 #[.pointer p, .int .i64 k] w (V1 (.pointer q) w)) (h2 : Calls Try.prog 45 #[.pointer q, .int .i64 n, .int .i64 i] w (R1 z w)) : Calls Try.prog 17 #[.pointer p, .int .i64 k, .int .i64 n, .int .i64 i] w (R1 z w) := by
  have H := Lib.hid h
  have H2 := Lib.hid h2
  clear h h2
  go_enter Try.func17, Try.ntmps17
  go_wp2_with fail
  refine H.out.mono ?_
  rintro e w' ⟨rfl, rfl⟩
  go_wp2_with fail
  refine H2.out.mono ?_
  rintro e w' ⟨rfl, rfl⟩
  go_wp2
  go_ret
  exact ⟨rfl, rfl⟩
theorem gowner_any (h : Gm w y x A lab V Q r) (k : Int) {n i : Int} (hn : Pl.Fit n) (hi : Pl.Fit i) : Calls Try.prog 17 #[.pointer (some ⟨y.g, 0, none⟩), .int .i64 k, .int .i64 n, .int .i64 i] w (R1 (ownerR r k n i) w) := by
  refine ask_of h (T := fun k => Calls Try.prog 17 #[.pointer (some ⟨y.g, 0, none⟩), .int .i64 k, .int .i64 n, .int .i64 i] w (R1 (ownerR r k n i) w)) k (fun j hj hk => ?_) (fun hk => ?_)
  · have e : ownerR r (j : Int) n i = Sh.ownerS (shelf r j) n i := by unfold ownerR; rw [if_pos hk, Int.toNat_natCast]
    rw [e]
    exact gowner_of _ _ _ _ _ _ w (gshelf_in h.cl hj) (Sh.owner_any (h.shv.each j hj) hn hi)
  · have e : ownerR r k n i = -1 := by unfold ownerR; rw [if_neg hk]
    rw [e]
    exact gowner_of _ _ _ _ _ _ w (gshelf_out h.cl (no_isK h hk)) (Sh.owner_nil n i w)
theorem gowner_nil (k n i : Int) (w : World) : Calls Try.prog 17 #[.pointer none, .int .i64 k, .int .i64 n, .int .i64 i] w (R1 (-1) w) := gowner_of _ _ _ _ _ _ w (gshelf_nil k w) (Sh.owner_nil n i w)
theorem gplan_of (p : Option Addr) (k : Int) (o : Option (Int × Int × Int × Int)) (q : Option Addr) (w : World) (h : ∀ w1, Below w.heap.size w w1 → Calls Try.prog 36 #[.pointer p, .int .i64 k] w1 (V1 (.pointer q) w1)) (h2 : ∀ w1, Below w.heap.size w w1 → Calls Try.prog 40 #[.pointer q] w1 (VB (planV o) w1)) : Calls Try.prog 13 #[.pointer p, .int .i64 k] w (VB (planV o) w) := by
  have b1 := below1 w (.cells #[.int .i64 0, .int .i64 0, .int .i64 0, .int .i64 0] 42)
  have Z1 := Lib.hid (Sh.Pz.new w)
  have H := Lib.hid (h _ b1)
  have H2 := Lib.hid (h2 _ b1)
  have HB := Lib.hid (fun w2 (b2 : Below (w.alloc (.cells #[.int .i64 0, .int .i64 0, .int .i64 0, .int .i64 0] 42)).heap.size (w.alloc (.cells #[.int .i64 0, .int .i64 0, .int .i64 0, .int .i64 0] 42)) w2) => belowT b1 b2)
  have go3 : Hid (∀ v, Below w.heap.size w v → ∀ c0 c1 c2 c3, Below w.heap.size w ((((v.setCell ⟨w.heap.size, 0, none⟩ c0).setCell ⟨w.heap.size, 1, none⟩ c1).setCell ⟨w.heap.size, 2, none⟩ c2).setCell ⟨w.heap.size, 3, none⟩ c3)) := Lib.hid fun v hv _ _ _ _ =>
    Sh.below_set (Sh.below_set (Sh.below_set (Sh.below_set hv (Nat.le_refl _) _) (Nat.le_refl _) _) (Nat.le_refl _) _) (Nat.le_refl _) _
  clear h h2 b1
  go_enter Try.func13, Try.ntmps13
  go_wp2_with fail
  refine H.out.mono ?_
  rintro e w' ⟨rfl, rfl⟩
  go_wp2_with fail
  refine H2.out.mono ?_
  rintro e w2 ⟨rfl, b2⟩
  obtain ⟨z0, z1, z2, z3, y0, y1, y2, y3⟩ := Z1.out.below b2
  have B2 := Lib.hid (HB.out _ b2)
  clear H H2 HB b2 Z1
  cases o with
  | none =>
    unfold planV
    go_wp2
    refine bodyPost_ret (v := planV none) (by simp [results, Try.results13, go_sem, planV, z0, z1, z2, z3]) rfl ?_
    exact ⟨rfl, by first | exact go3.out _ B2.out _ _ _ _ | exact B2.out⟩
  | some d =>
    obtain ⟨d0, d1, d2, d3⟩ := d
    unfold planV
    go_wp2
    refine bodyPost_ret (v := planV (some (d0, d1, d2, d3))) (by simp [results, Try.results13, go_sem, planV, z0, z1, z2, z3]) rfl ?_
    exact ⟨rfl, go3.out _ B2.out _ _ _ _⟩
theorem gplan_any (h : Gm w y x A lab V Q r) (k : Int) : Calls Try.prog 13 #[.pointer (some ⟨y.g, 0, none⟩), .int .i64 k] w (VB (planV (planR r k)) w) := by
  refine ask_of h (T := fun k => Calls Try.prog 13 #[.pointer (some ⟨y.g, 0, none⟩), .int .i64 k] w (VB (planV (planR r k)) w)) k (fun j hj hk => ?_) (fun hk => ?_)
  · have e : planR r (j : Int) = Sh.planS (shelf r j) := by unfold planR; rw [if_pos hk, Int.toNat_natCast]
    rw [e]
    refine gplan_of _ _ _ _ w (fun w1 b1 => gshelf_in (h.below b1).cl hj) (fun w1 b1 => ?_)
    have sm := (h.below b1).sm hj
    exact Sh.plan_any sm.sr sm.sw
  · have e : planR r k = none := by unfold planR; rw [if_neg hk]
    rw [e]
    exact gplan_of _ _ _ _ w (fun w1 b1 => gshelf_out (h.below b1).cl (no_isK h hk)) (fun w1 b1 => Sh.plan_nil w1)
theorem gplan_nil (k : Int) (w : World) : Calls Try.prog 13 #[.pointer none, .int .i64 k] w (VB (planV none) w) := gplan_of _ _ _ _ w (fun w1 _ => gshelf_nil k w1) (fun w1 _ => Sh.plan_nil w1)
end
end Go.Proofs.Ytfkegbipfekbdaa.Room
/-
  Package room: chargePages, as a deferred call; what is charged behind an act of a shelf.
-/
namespace Go.Proofs.Ytfkegbipfekbdaa.Room
open Go.ChangeShapes Go.WideShapes Go.ChangeAt Go.RowKit
open Sh (Shl Ps Sw Uw Sr Sm Fx Adr Lab Nxt Far nums usedS mem_nums)
set_option maxRecDepth 100000

/-- The room r, which lies where it lay, or in new blocks; nothing else than what may turn, and the meter, has turned. -/
def GN (y : Gx) (x : Nat → Fx) (lab : Nat → Lab) (Q : Nat → Prop) (m : Nat) (r : Rom) (w w' : World) : Prop :=
  ∃ A' lab' V' Q', Gm w' y x A' lab' V' Q' r ∧ (∀ i, i < w.heap.size → Ftp y lab' Q' i → Ftp y lab Q i) ∧ But (fun i => Trn y lab i ∨ i = m) w w'
/-- How an act of a room ends: it answers v, the room is r, which is charged. -/
def GmEnds (v : Value) (y : Gx) (x : Nat → Fx) (lab : Nat → Lab) (Q : Nat → Prop) (m : Nat) (l : Int) (r : Rom) (w : World) (e : Ending) (w' : World) : Prop :=
  e = .returned v ∧ GN y x lab Q m r w w' ∧ Mt w' m r.st l
/-- A room in memory, and its meter beside it. -/
structure Gw (w : World) (y : Gx) (x : Nat → Fx) (A : Nat → Adr) (lab : Nat → Lab) (V : Int → Value) (Q : Nat → Prop) (m : Nat) (l : Int) (r : Rom) : Prop where
  gm : Gm w y x A lab V Q r
  mv : y.mv = .pointer (some ⟨m, 0, none⟩)
  mt : Mt w m r.st l
  mo : ¬ Ftp y lab Q m
  st : 0 ≤ r.st ∧ r.st ≤ 1000000000000
section
variable {w w2 w3 : World} {y : Gx} {x : Nat → Fx} {A : Nat → Adr} {lab : Nat → Lab} {V : Int → Value} {Q : Nat → Prop} {r : Rom} {m : Nat} {l t : Int} {k : Nat} {s : Shl}
theorem Mt.far (h : Mt w m t l) : Far w (· = m) := fun i e _ v _ => by
  subst e
  rw [h.last]
  simp
theorem Gm.held (h : Gm w y x A lab V Q r) : 0 ≤ heldR r ∧ heldR r ≤ 1024 ∧ heldR r = (y.K : Int) - (r.fl.length : Int) := by
  have a := h.wf.pool.len
  have b := h.wf.pool.few
  have c := h.k2
  unfold heldR
  omega
theorem dist_held {a b K : Nat} (_ : a ≤ K) (_ : b ≤ K) : max ((K : Int) - (a : Int)) ((K : Int) - (b : Int)) - min ((K : Int) - (a : Int)) ((K : Int) - (b : Int)) = dist a b := by
  unfold dist
  omega
/-- What was taken of the pool, or went back, is charged. -/
theorem gcharge_any (h : Gm w y x A lab V Q r) (hm : y.mv = .pointer (some ⟨m, 0, none⟩)) (hM : Mt w m t l) (ht : 0 ≤ t ∧ t ≤ 2000000000000) (z D : Int) (hD : max z (heldR r) - min z (heldR r) = D) (hD2 : 0 ≤ D ∧ D ≤ 1024) (u : FrameMode) :
    CallsD Try.prog 37 #[.pointer (some ⟨y.g, 0, none⟩), .int .i64 z] u w fun e u' w' => u' = u ∧ (e = .returned (.tuple #[]) ∧ Mt w' m (t + 4 * D) l ∧ But (· = m) w w') := by
  have k0 := h.cl.k0
  rw [hm] at k0
  have k1 := h.cl.k1
  have e : (y.K : Int) - (r.fl.length : Int) = heldR r := h.held.2.2.symm
  have H := Lib.hid (Pl.held_any h.pool)
  rw [e] at H
  have hw1 : IntKind.i64.wrap (max z (heldR r) - min z (heldR r)) = D := by rw [hD]; exact IntWalk.i64_in _ (by omega)
  have hw2 : IntKind.i64.wrap (D * 4) = D * 4 := IntWalk.i64_in _ (by omega)
  have em : more t (D * 4) = t + 4 * D := by unfold more; split <;> omega
  have HC := Lib.hid (fun n => charge_any m t l (D * 4) (w.drewN n) (hM.drewN n))
  rw [em] at HC
  have HB := Lib.hid (fun n w' (q : But (· = m) (w.drewN n) w') => ((But.refl (· = m) w).drewN n).trans q)
  generalize heldR r = z2 at H hw1
  clear h hm hM ht hD hD2 e em
  go_enter_d Try.func37, Try.ntmps37
  go_wp2_with fail
  refine H.out.mono ?_
  rintro e w' ⟨rfl, n, rfl⟩
  go_wp2_with fail
  refine (HC.out n).mono ?_
  rintro e w' ⟨rfl, mt, bt⟩
  have HM := Lib.hid (And.intro mt (HB.out n w' bt))
  clear mt bt
  go_wp2
  go_end0
  exact ⟨rfl, HM.out.1, HM.out.2⟩
theorem Gw.ms (h : Gw w y x A lab V Q m l r) : m < w.heap.size := h.mt.size
theorem Gw.apart (h : Gw w y x A lab V Q m l r) : ¬ Trn y lab m := fun q => h.mo (Or.inr q)
/-- Behind an act of a class's shelf: how much is counted, and what is still to be charged. -/
theorem Gw.behind (h : Gw w y x A lab V Q m l r) (hk : k < y.c.cn) (hsp : Spares (k : Int) r.O s.O) (hsum : s.fl.length + s.ps.length = r.fl.length + (shelf r k).ps.length) {n : Nat} (hn : Nxt (x k) (lab k) s (w.drewN n) w2) :
    w2.cell? ⟨y.g, 0, none⟩ = some (.pointer (some ⟨m, 0, none⟩)) ∧ Mt w2 m r.st l ∧ ∀ (c : Int) (w3 : World), (0 ≤ c ∧ c ≤ 3) → Mt w3 m (r.st + c) l → But (· = m) w2 w3 →
      CallsD Try.prog 37 #[.pointer (some ⟨y.g, 0, none⟩), .int .i64 (heldR r)] .returning w3 fun e u' w' => u' = .returning ∧ (e = .returned (.tuple #[]) ∧
        GN y x lab Q m ⟨s.O, s.fl, r.sh.set k (s.ps, s.op), r.lg, r.st + c + 4 * dist r.fl.length s.fl.length⟩ w w' ∧ Mt w' m (r.st + c + 4 * dist r.fl.length s.fl.length) l) := by
  have hd := h.gm.drewN n
  obtain ⟨A', lab', g2, sub, b2⟩ := hd.turn hk hn hsp hsum
  have c0 := g2.cl.k0
  rw [h.mv] at c0
  have m2 := (h.mt.drewN n).but b2 h.apart
  have mo2 : ¬ Ftp y lab' Q m := fun q => h.mo (sub m h.ms q)
  refine ⟨c0, m2, fun c w3 hc hM b3 => ?_⟩
  have g3 : Gm w3 y x A' lab' V Q (putS r k s) := g2.but b3 (fun i e q => mo2 (by rw [← e]; exact q)) (Mt.far m2)
  obtain ⟨a1, a2, a3⟩ := g3.held
  obtain ⟨z1, z2, z3⟩ := h.gm.held
  have f1 := h.gm.wf.pool.few
  have f2 := g3.wf.pool.few
  have kk := h.gm.k2
  have hst := h.st
  have e : max (heldR r) (heldR (putS r k s)) - min (heldR r) (heldR (putS r k s)) = dist r.fl.length s.fl.length := by
    rw [z3, a3]
    exact dist_held f1 f2
  have hD : 0 ≤ dist r.fl.length s.fl.length ∧ dist r.fl.length s.fl.length ≤ 1024 := by
    rw [← e]
    omega
  refine (gcharge_any g3 h.mv hM (by omega) (heldR r) _ e hD .returning).mono ?_
  rintro e u' w4 ⟨rfl, rfl, m4, b4⟩
  have mo3 : ∀ i, i = m → ¬ Ftp y lab' Q i := fun i e q => mo2 (by rw [← e]; exact q)
  have g4 : Gm w4 y x A' lab' V Q (putS r k s) := g3.but b4 mo3 (Mt.far hM)
  refine ⟨rfl, rfl, ⟨A', lab', V, Q, g4.steps _, sub, ?_⟩, m4⟩
  have b0 : But (fun i => Trn y lab i ∨ i = m) w w2 := ((But.refl _ w).drewN n).then b2 (fun i _ q => Or.inl q)
  exact (b0.then b3 (fun i _ q => Or.inr q)).then b4 (fun i _ q => Or.inr q)
end
end Go.Proofs.Ytfkegbipfekbdaa.Room
