import Derived.Test.YtfkegbipfekbdaaZPlNum
import Derived.Test.YtfkegbipfekbdaaZPgBits
import Derived.Deep.RegionLaw
/-
  Package pool, its ground: what a Pool is in memory ('Pm'), free pages threaded through one another; and the contracts of above, Give's closure, has, Owner, Free, Held.
-/
namespace Go.Proofs.Ytfkegbipfekbdaa.Pl
open Go.ChangeShapes Go.WideShapes Go.ChangeAt Go.RowKit
set_option maxRecDepth 100000

/-- A function value that tells the number v: a page's own 'above', or a closure over a cell (in no block of the pool) that holds v. -/
def Tells (w : World) (p a : Nat) (t : Value) (v : Int) : Prop :=
  t = .func (.func 52) #[.int .i64 (v - 1)] #[] ∨
    ∃ b, t = .func (.func 93) #[] #[.pointer (some ⟨b, 0, none⟩)] ∧ w.cell? ⟨b, 0, none⟩ = some (.int .i64 v) ∧ w.cell? ⟨b, 1, none⟩ = none ∧ b ≠ p ∧ b ≠ a
/-- Each free page tells the one behind it. -/
def Thr (w : World) (p a K : Nat) : List Int → Prop
  | [] => True
  | x :: r => (∃ t, w.cell? ⟨a, x.toNat * 2 + 1, none⟩ = some t ∧ Tells w p a t (hd K r)) ∧ Thr w p a K r
/-- Block p is a Pool of K pages in block a, each of two cells (owner, next). -/
structure Pm (w : World) (p a K : Nat) (O fl : List Int) : Prop where
  wf : Pw K O fl
  c0 : w.cell? ⟨p, 0, none⟩ = some (.slice (some ⟨a, 0, none⟩) K K)
  c1 : w.cell? ⟨p, 1, none⟩ = some (.int .i64 (hd K fl))
  c2 : w.cell? ⟨p, 2, none⟩ = some (.int .i64 (fl.length : Int))
  f1 : w.frozen? ⟨p, 1, none⟩ = false
  f2 : w.frozen? ⟨p, 2, none⟩ = false
  co : ∀ (k : Nat) (x : Int), O[k]? = some x → w.cell? ⟨a, k * 2, none⟩ = some (.int .i64 x)
  ct : ∀ k, k < K → ∃ t, w.cell? ⟨a, k * 2 + 1, none⟩ = some t
  fo : ∀ q, q < K * 2 → w.frozen? ⟨a, q, none⟩ = false
  th : Thr w p a K fl
  pa : p ≠ a
  k1 : 1 ≤ K
  k2 : K ≤ 1024
/-- What a call may turn. -/
def Own (p a : Nat) (i : Nat) : Prop := i = p ∨ i = a
section
variable {w w' : World} {p a K : Nat} {O fl r : List Int} {t : Value} {v x : Int}
theorem Tells.keep (h : Tells w p a t v) (hc : ∀ b j x, b ≠ p → b ≠ a → b < w.heap.size → w.cell? ⟨b, j, none⟩ = x → w'.cell? ⟨b, j, none⟩ = x) : Tells w' p a t v := by
  rcases h with h | ⟨b, e, c, d, n1, n2⟩
  · exact Or.inl h
  · have hl := lt_of_cell (p := ⟨b, 0, none⟩) c
    exact Or.inr ⟨b, e, hc b 0 _ n1 n2 hl c, hc b 1 _ n1 n2 hl d, n1, n2⟩
theorem Thr.keep (h : Thr w p a K fl) (ha : ∀ x ∈ fl, ∀ t, w.cell? ⟨a, x.toNat * 2 + 1, none⟩ = some t → w'.cell? ⟨a, x.toNat * 2 + 1, none⟩ = some t)
    (hc : ∀ b j x, b ≠ p → b ≠ a → b < w.heap.size → w.cell? ⟨b, j, none⟩ = x → w'.cell? ⟨b, j, none⟩ = x) : Thr w' p a K fl := by
  induction fl with
  | nil => trivial
  | cons x r ih =>
    obtain ⟨⟨t, h1, h2⟩, h3⟩ := h
    exact ⟨⟨t, ha x (by simp) t h1, h2.keep hc⟩, ih h3 (fun y hy => ha y (by simp [hy]))⟩
theorem Thr.but {S : Nat → Prop} (h : Thr w p a K fl) (hb : But S w w') (hS : ∀ i, S i → i = p) (hp : p ≠ a) : Thr w' p a K fl :=
  h.keep (fun x _ _ ht => (hb.cell (p := ⟨a, x.toNat * 2 + 1, none⟩) (lt_of_cell (p := ⟨a, x.toNat * 2 + 1, none⟩) ht) (fun q => hp (hS _ q).symm)).trans ht)
    (fun b j _ n1 _ hl ht => (hb.cell (p := ⟨b, j, none⟩) hl (fun q => n1 (hS _ q))).trans ht)
theorem Pm.psize (h : Pm w p a K O fl) : p < w.heap.size := lt_of_cell (p := ⟨p, 0, none⟩) h.c0
theorem Pm.asize (h : Pm w p a K O fl) : a < w.heap.size := by
  obtain ⟨t, ht⟩ := h.ct 0 (by have := h.k1; omega)
  exact lt_of_cell (p := ⟨a, 0 * 2 + 1, none⟩) ht
/-- Kept by what turns no block but ones that were made since, or hold nothing of the pool's. -/
theorem Pm.but {S : Nat → Prop} (h : Pm w p a K O fl) (hb : But S w w') (hp : ¬ S p) (hA : ¬ S a) (hS : ∀ i, S i → i < w.heap.size → ∀ x, w.cell? ⟨i, 0, none⟩ = some (.int .i64 x) → w.cell? ⟨i, 1, none⟩ ≠ none) : Pm w' p a K O fl :=
  have hps := h.psize
  have has := h.asize
  ⟨h.wf, (hb.cell (p := ⟨p, 0, none⟩) hps hp).trans h.c0, (hb.cell (p := ⟨p, 1, none⟩) hps hp).trans h.c1, (hb.cell (p := ⟨p, 2, none⟩) hps hp).trans h.c2,
    (hb.frozen (p := ⟨p, 1, none⟩) hps hp).trans h.f1, (hb.frozen (p := ⟨p, 2, none⟩) hps hp).trans h.f2,
    fun k x hk => (hb.cell (p := ⟨a, k * 2, none⟩) has hA).trans (h.co k x hk), fun k hk => by
      obtain ⟨t, ht⟩ := h.ct k hk
      exact ⟨t, (hb.cell (p := ⟨a, k * 2 + 1, none⟩) has hA).trans ht⟩,
    fun q hq => (hb.frozen (p := ⟨a, q, none⟩) has hA).trans (h.fo q hq),
    by
      have := h.th
      clear h
      induction fl with
      | nil => trivial
      | cons x r ih =>
        obtain ⟨⟨t, h1, h2⟩, h3⟩ := this
        refine ⟨⟨t, (hb.cell (p := ⟨a, x.toNat * 2 + 1, none⟩) has hA).trans h1, ?_⟩, ih h3⟩
        rcases h2 with h2 | ⟨b, e, c, d, n1, n2⟩
        · exact Or.inl h2
        · have hlt := lt_of_cell (p := ⟨b, 0, none⟩) c
          exact Or.inr ⟨b, e, (hb.cell (p := ⟨b, 0, none⟩) hlt (fun q => hS b q hlt _ c d)).trans c, (hb.cell (p := ⟨b, 1, none⟩) hlt (fun q => hS b q hlt _ c d)).trans d, n1, n2⟩,
    h.pa, h.k1, h.k2⟩
theorem Pm.below (h : Pm w p a K O fl) (hb : Below w.heap.size w w') : Pm w' p a K O fl := h.but (Below.but hb fun _ => False) id id (fun _ q => q.elim)
theorem Own.below {w0 : World} (h : But (Own p a) w w') (hB : w0.heap.size ≤ w.heap.size) (hp : w0.heap.size ≤ p) (ha : w0.heap.size ≤ a) : Below w0.heap.size w w' :=
  h.below hB fun k hk e => by rcases e with e | e <;> omega
end

theorem above_any (v : Int) (h : 0 ≤ v ∧ v ≤ 1024) (w : World) : Calls Try.prog 52 #[.int .i64 (v - 1)] w (R1 v w) := by
  have hw : IntKind.i64.wrap (v - 1 + 1) = v := by rw [show v - 1 + 1 = v by omega]; exact IntWalk.i64_in _ (by omega)
  go_enter Try.func52, Try.ntmps52
  go_wp2
  go_ret
  exact ⟨by first | rfl | (simp; done), rfl⟩
theorem behind_any (b : Nat) (v : Int) (w : World) (h : w.cell? ⟨b, 0, none⟩ = some (.int .i64 v)) : Calls Try.prog 93 #[.pointer (some ⟨b, 0, none⟩)] w (R1 v w) := by
  go_enter Try.func93, Try.ntmps93
  go_wp2
  go_ret
  exact ⟨rfl, rfl⟩

section
variable {w : World} {p a K : Nat} {O fl : List Int}
theorem has_any (h : Pm w p a K O fl) (i : Int) :
    Calls Try.prog 92 #[.pointer (some ⟨p, 0, none⟩), .int .i64 i] w (B1 (inB K i) w) := by
  have h0 := h.c0
  unfold inB
  clear h
  by_cases h1 : 0 ≤ i
  · have d1 : decide (0 ≤ i) = true := by simp [h1]
    go_enter Try.func92, Try.ntmps92
    go_wp2
    go_ret
    exact ⟨by simp [h1], rfl⟩
  · have d1 : decide (0 ≤ i) = false := by simp [h1]
    go_enter Try.func92, Try.ntmps92
    go_wp2
    go_ret
    exact ⟨by simp, rfl⟩
theorem free_any (h : Pm w p a K O fl) : Calls Try.prog 32 #[.pointer (some ⟨p, 0, none⟩)] w (R1 (fl.length : Int) w) := by
  have h0 := h.c2
  clear h
  go_enter Try.func32, Try.ntmps32
  go_wp2
  go_ret
  exact ⟨rfl, rfl⟩
theorem held_any (h : Pm w p a K O fl) : Calls Try.prog 29 #[.pointer (some ⟨p, 0, none⟩)] w (RQ ((K : Int) - (fl.length : Int)) w) := by
  have h0 := h.c0
  have h2 := h.c2
  have hf := h.wf.few
  have hk := h.k2
  obtain ⟨n, hn⟩ : ∃ n, n = fl.length := ⟨_, rfl⟩
  rw [← hn] at h2 hf ⊢
  have hw : IntKind.i64.wrap ((K : Int) - (n : Int)) = (K : Int) - (n : Int) := IntWalk.i64_in _ (by omega)
  clear h hn
  go_enter Try.func29, Try.ntmps29
  go_wp2_with fail
  go_quiet (fail)
  go_wp2
  go_ret
  exact ⟨rfl, _, rfl⟩
end
end Go.Proofs.Ytfkegbipfekbdaa.Pl
/-
  Package pool: Take, met by a contract.
-/
namespace Go.Proofs.Ytfkegbipfekbdaa.Pl
open Go.ChangeShapes Go.WideShapes Go.ChangeAt Go.RowKit
set_option maxRecDepth 100000

/-- How a call ends that takes a page, or gives one. -/
def TakeEnds (p a K : Nat) (r : List Int × List Int × Int × Int) (w : World) (e : Ending) (w' : World) : Prop :=
  e = .returned (.tuple #[.int .i64 r.2.2.1, .int .i64 r.2.2.2]) ∧ Pm w' p a K r.1 r.2.1 ∧ But (Own p a) w w'
def GiveEnds (p a K : Nat) (r : List Int × List Int × Int) (w : World) (e : Ending) (w' : World) : Prop :=
  e = .returned (.int .i64 r.2.2) ∧ Pm w' p a K r.1 r.2.1 ∧ But (Own p a) w w'
section
variable {w : World} {p a K : Nat} {O fl r : List Int}
/-- Behind Take: first, owner, next, and the count are stored. -/
theorem Pm.took {k : Nat} {o : Int} (h : Pm w p a K O ((k : Int) :: r)) (h0 : 0 ≤ o) (ho : Fit o) :
    Pm ((((w.setCell ⟨p, 1, none⟩ (.int .i64 (hd K r))).setCell ⟨a, k * 2, none⟩ (.int .i64 o)).setCell ⟨a, k * 2 + 1, none⟩ .nilFunc).setCell ⟨p, 2, none⟩ (.int .i64 (r.length : Int))) p a K (O.set k o) r := by
  obtain ⟨k', e, hk⟩ := h.wf.lt (x := (k : Int)) (by simp)
  have e' : k' = k := by omega
  subst e'
  have hpa := h.pa
  have hO := h.wf.len
  obtain ⟨hn, _⟩ := List.nodup_cons.1 h.wf.once
  have other : ∀ (q : Addr) (x : Option Value), (⟨p, 1, none⟩ : Addr) ≠ q → (⟨a, k' * 2, none⟩ : Addr) ≠ q → (⟨a, k' * 2 + 1, none⟩ : Addr) ≠ q → (⟨p, 2, none⟩ : Addr) ≠ q → w.cell? q = x →
      ((((w.setCell ⟨p, 1, none⟩ (.int .i64 (hd K r))).setCell ⟨a, k' * 2, none⟩ (.int .i64 o)).setCell ⟨a, k' * 2 + 1, none⟩ .nilFunc).setCell ⟨p, 2, none⟩ (.int .i64 (r.length : Int))).cell? q = x := by
    intro q x n1 n2 n3 n4 hx
    rw [World.cell?_setCell_other _ _ _ _ n4, World.cell?_setCell_other _ _ _ _ n3, World.cell?_setCell_other _ _ _ _ n2, World.cell?_setCell_other _ _ _ _ n1]
    exact hx
  obtain ⟨t0, ht0⟩ := h.ct k' hk
  obtain ⟨x0, hx0, _⟩ := h.wf.ofK hk
  refine ⟨h.wf.take h0 ho, other _ _ (by simp) (by simp <;> omega) (by simp <;> omega) (by simp) h.c0, ?_, ?_, by simpa using h.f1, by simpa using h.f2, fun j x hj => ?_, fun j hj => ?_, fun q hq => by simpa using h.fo q hq, ?_, h.pa, h.k1, h.k2⟩
  · rw [World.cell?_setCell_other _ _ _ _ (by simp), World.cell?_setCell_other _ _ _ _ (by simp <;> omega), World.cell?_setCell_other _ _ _ _ (by simp <;> omega)]
    exact World.cell?_setCell_same w _ _ h.c1
  · refine World.cell?_setCell_same _ _ _ (show _ = some (.int .i64 (((k' : Int) :: r).length : Int)) from ?_)
    rw [World.cell?_setCell_other _ _ _ _ (by simp <;> omega), World.cell?_setCell_other _ _ _ _ (by simp <;> omega), World.cell?_setCell_other _ _ _ _ (by simp)]
    exact h.c2
  · by_cases z : k' = j
    · subst z
      rw [List.getElem?_set_self (by omega)] at hj
      cases hj
      rw [World.cell?_setCell_other _ _ _ _ (by simp <;> omega), World.cell?_setCell_other _ _ _ _ (by simp)]
      refine World.cell?_setCell_same _ _ _ (show _ = some (.int .i64 x0) from ?_)
      rw [World.cell?_setCell_other _ _ _ _ (by simp <;> omega)]
      exact h.co k' x0 hx0
    · rw [List.getElem?_set_ne z] at hj
      exact other _ _ (by simp <;> omega) (by simp <;> omega) (by simp <;> omega) (by simp <;> omega) (h.co j x hj)
  · by_cases z : j = k'
    · subst z
      refine ⟨.nilFunc, ?_⟩
      rw [World.cell?_setCell_other _ _ _ _ (by simp <;> omega)]
      refine World.cell?_setCell_same _ _ _ (show _ = some t0 from ?_)
      rw [World.cell?_setCell_other _ _ _ _ (by simp), World.cell?_setCell_other _ _ _ _ (by simp <;> omega)]
      exact ht0
    · obtain ⟨t, ht⟩ := h.ct j hj
      exact ⟨t, other _ _ (by simp <;> omega) (by simp <;> omega) (by simp <;> omega) (by simp <;> omega) ht⟩
  · refine h.th.2.keep (fun y hy t ht => ?_) (fun b j x n1 n2 _ hx => ?_)
    · obtain ⟨j, ej, _⟩ := h.wf.lt (x := y) (by simp [hy])
      have hne : j ≠ k' := fun q => hn (by rw [← q, ← ej]; exact hy)
      subst ej
      rw [Int.toNat_natCast] at ht ⊢
      exact other _ _ (by simp <;> omega) (by simp <;> omega) (by simp <;> omega) (by simp <;> omega) ht
    · exact other _ _ (by simp <;> omega) (by simp <;> omega) (by simp <;> omega) (by simp <;> omega) hx

theorem take_arg (h : Pm w p a K O fl) (o : Int) (ho : o < 0) :
    Calls Try.prog 85 #[.pointer (some ⟨p, 0, none⟩), .int .i64 o] w (TakeEnds p a K (O, fl, 0, 1) w) := by
  have H := Lib.hid h
  have d1 : decide (o < 0) = true := by simpa using ho
  clear h ho
  go_enter Try.func85, Try.ntmps85
  go_wp2
  go_ret2
  exact ⟨rfl, H.out, But.refl _ _⟩
theorem take_none (h : Pm w p a K O []) (o : Int) (ho : 0 ≤ o) :
    Calls Try.prog 85 #[.pointer (some ⟨p, 0, none⟩), .int .i64 o] w (TakeEnds p a K (O, [], 0, 5) w) := by
  have H := Lib.hid h
  have c2 : w.cell? ⟨p, 2, none⟩ = some (.int .i64 0) := h.c2
  have d1 : decide (o < 0) = false := by simpa using ho
  clear h ho
  go_enter Try.func85, Try.ntmps85
  go_wp2
  go_ret2
  exact ⟨rfl, H.out, But.refl _ _⟩
theorem take_ok {k : Nat} (h : Pm w p a K O ((k : Int) :: r)) (o : Int) (h0 : 0 ≤ o) (ho : Fit o) :
    Calls Try.prog 85 #[.pointer (some ⟨p, 0, none⟩), .int .i64 o] w (TakeEnds p a K (O.set k o, r, k, 0) w) := by
  have H := Lib.hid (h.took h0 ho)
  have c0 := h.c0
  have c1 : w.cell? ⟨p, 1, none⟩ = some (.int .i64 (k : Int)) := h.c1
  have c2 := h.c2
  have f1 := h.f1
  have f2 := h.f2
  obtain ⟨k', e, hk⟩ := h.wf.lt (x := (k : Int)) (by simp)
  obtain rfl : k' = k := by omega
  have k2 := h.k2
  have g0 := h.fo (k' * 2) (by omega)
  have g1 := h.fo (k' * 2 + 1) (by omega)
  have hpa := h.pa
  have hap : ¬ a = p := fun q => hpa q.symm
  obtain ⟨x0, hx0, _⟩ := h.wf.ofK hk
  have c3 := h.co k' x0 hx0
  obtain ⟨⟨t, c4, ht⟩, _⟩ := h.th
  rw [Int.toNat_natCast] at c4
  have hhd := (h.wf.take h0 ho).head
  have hfew := h.wf.few
  obtain ⟨n, hn⟩ : ∃ n, n = r.length := ⟨_, rfl⟩
  rw [List.length_cons, ← hn] at c2 hfew
  rw [← hn] at H
  generalize hd K r = v at H ht hhd
  have hst : ∀ (q : Addr) (m : Mode) (u : World), (store q .nilFunc m).run Try.prog u = stored Try.prog u q .nilFunc m := fun q m u => run_store Try.prog u q _ m rfl
  clear hn
  have d1 : decide (o < 0) = false := by simpa using h0
  have e1 : (((n + 1 : Nat) : Int) == 0) = false := beq_eq_false_iff_ne.2 (by omega)
  have hw : IntKind.i64.wrap (((n + 1 : Nat) : Int) - 1) = (n : Int) := by rw [show ((n + 1 : Nat) : Int) - 1 = (n : Int) by omega]; exact IntWalk.i64_in _ (by omega)
  have HB : Hid (But (Own p a) w ((((w.setCell ⟨p, 1, none⟩ (.int .i64 v)).setCell ⟨a, k' * 2, none⟩ (.int .i64 o)).setCell ⟨a, k' * 2 + 1, none⟩ .nilFunc).setCell ⟨p, 2, none⟩ (.int .i64 (n : Int)))) :=
    Lib.hid (((((But.refl _ w).setCell (p := ⟨p, 1, none⟩) (fun _ => Or.inl rfl) _).setCell (p := ⟨a, k' * 2, none⟩) (fun _ => Or.inr rfl) _).setCell (p := ⟨a, k' * 2 + 1, none⟩) (fun _ => Or.inr rfl) _).setCell (p := ⟨p, 2, none⟩) (fun _ => Or.inl rfl) _)
  rcases ht with rfl | ⟨b, rfl, hb, _, _, _⟩
  · have HC := Lib.hid (above_any v (by omega) w)
    clear h
    go_enter Try.func85, Try.ntmps85
    go_wp2_with fail
    refine HC.out.mono ?_
    rintro e w' ⟨rfl, rfl⟩
    go_wp2
    go_ret2
    exact ⟨rfl, H.out, HB.out⟩
  · have HC := Lib.hid (behind_any b v w hb)
    clear h
    go_enter Try.func85, Try.ntmps85
    go_wp2_with fail
    refine HC.out.mono ?_
    rintro e w' ⟨rfl, rfl⟩
    go_wp2
    go_ret2
    exact ⟨rfl, H.out, HB.out⟩
end
end Go.Proofs.Ytfkegbipfekbdaa.Pl
