/-
  Package pool, its ground: what a Pool is in memory ('Pm'), free pages threaded through one another; and the contracts of above, Give's closure, has, Owner, Free, Held.
-/
import Derived.Test.YtijkigibcpgciaaPlNum
import Derived.Test.YtijkigibcpgciaaQuietImp
import Derived.Deep.RegionLaw
namespace Go.Proofs.Ytijkigibcpgciaa.Pl
open Go.ChangeShapes Go.WideShapes Go.ChangeAt Go.RowKit
set_option maxRecDepth 100000

/-- A function value that tells the number v: a page's own 'above', or a closure over a cell (in no block of the pool) that holds v. -/
def Tells (w : World) (p a : Nat) (t : Value) (v : Int) : Prop :=
  t = .func (.func 29) #[.int .i64 (v - 1)] #[] ∨
    ∃ b, t = .func (.func 86) #[] #[.pointer (some ⟨b, 0, none⟩)] ∧ w.cell? ⟨b, 0, none⟩ = some (.int .i64 v) ∧ w.cell? ⟨b, 1, none⟩ = none ∧ b ≠ p ∧ b ≠ a
/-- Each free page tells the one behind it. -/
def Thr (w : World) (p a K : Nat) : List Int → Prop
  | [] => True
  | x :: r => (∃ t, w.cell? ⟨a, x.toNat * 2 + 1, none⟩ = some t ∧ Tells w p a t (hd K r)) ∧ Thr w p a K r
/-- Block p is a Pool of K pages in block a, each of two cells (owner, next). -/
structure Pm (w : World) (p a K : Nat) (O fl : List Int) : Prop where
  wf : Pw K O fl
  c0 : w.cell? ⟨p, 0, none⟩ = some (.slice (some ⟨a, 0, none⟩) K K)
  c1 : w.cell? ⟨p, 1, none⟩ = some (.int .i64 (hd K fl))
  c2 : w.cell? ⟨p, 2, none⟩ = some (.int .i64 (fl.length : Int))
  f1 : w.frozen? ⟨p, 1, none⟩ = false
  f2 : w.frozen? ⟨p, 2, none⟩ = false
  co : ∀ (k : Nat) (x : Int), O[k]? = some x → w.cell? ⟨a, k * 2, none⟩ = some (.int .i64 x)
  ct : ∀ k, k < K → ∃ t, w.cell? ⟨a, k * 2 + 1, none⟩ = some t
  fo : ∀ q, q < K * 2 → w.frozen? ⟨a, q, none⟩ = false
  th : Thr w p a K fl
  pa : p ≠ a
  k1 : 1 ≤ K
  k2 : K ≤ 1024
/-- What a call may turn. -/
def Own (p a : Nat) (i : Nat) : Prop := i = p ∨ i = a
section
variable {w w' : World} {p a K : Nat} {O fl r : List Int} {t : Value} {v x : Int}
theorem Tells.keep (h : Tells w p a t v) (hc : ∀ b j x, b ≠ p → b ≠ a → b < w.heap.size → w.cell? ⟨b, j, none⟩ = x → w'.cell? ⟨b, j, none⟩ = x) : Tells w' p a t v := by
  rcases h with h | ⟨b, e, c, d, n1, n2⟩
  · exact Or.inl h
  · have hl := lt_of_cell (p := ⟨b, 0, none⟩) c
    exact Or.inr ⟨b, e, hc b 0 _ n1 n2 hl c, hc b 1 _ n1 n2 hl d, n1, n2⟩
theorem Thr.keep (h : Thr w p a K fl) (ha : ∀ x ∈ fl, ∀ t, w.cell? ⟨a, x.toNat * 2 + 1, none⟩ = some t → w'.cell? ⟨a, x.toNat * 2 + 1, none⟩ = some t)
    (hc : ∀ b j x, b ≠ p → b ≠ a → b < w.heap.size → w.cell? ⟨b, j, none⟩ = x → w'.cell? ⟨b, j, none⟩ = x) : Thr w' p a K fl := by
  induction fl with
  | nil => trivial
  | cons x r ih =>
    obtain ⟨⟨t, h1, h2⟩, h3⟩ := h
    exact ⟨⟨t, ha x (by simp) t h1, h2.keep hc⟩, ih h3 (fun y hy => ha y (by simp [hy]))⟩
theorem Thr.but {S : Nat → Prop} (h : Thr w p a K fl) (hb : But S w w') (hS : ∀ i, S i → i = p) (hp : p ≠ a) : Thr w' p a K fl :=
  h.keep (fun x _ _ ht => (hb.cell (p := ⟨a, x.toNat * 2 + 1, none⟩) (lt_of_cell (p := ⟨a, x.toNat * 2 + 1, none⟩) ht) (fun q => hp (hS _ q).symm)).trans ht)
    (fun b j _ n1 _ hl ht => (hb.cell (p := ⟨b, j, none⟩) hl (fun q => n1 (hS _ q))).trans ht)
theorem Pm.psize (h : Pm w p a K O fl) : p < w.heap.size := lt_of_cell (p := ⟨p, 0, none⟩) h.c0
theorem Pm.asize (h : Pm w p a K O fl) : a < w.heap.size := by
  obtain ⟨t, ht⟩ := h.ct 0 (by have := h.k1; omega)
  exact lt_of_cell (p := ⟨a, 0 * 2 + 1, none⟩) ht
/-- Kept by what turns no block but ones that were made since, or hold nothing of the pool's. -/
theorem Pm.but {S : Nat → Prop} (h : Pm w p a K O fl) (hb : But S w w') (hp : ¬ S p) (hA : ¬ S a) (hS : ∀ i, S i → i < w.heap.size → ∀ x, w.cell? ⟨i, 0, none⟩ = some (.int .i64 x) → w.cell? ⟨i, 1, none⟩ ≠ none) : Pm w' p a K O fl :=
  have hps := h.psize
  have has := h.asize
  ⟨h.wf, (hb.cell (p := ⟨p, 0, none⟩) hps hp).trans h.c0, (hb.cell (p := ⟨p, 1, none⟩) hps hp).trans h.c1, (hb.cell (p := ⟨p, 2, none⟩) hps hp).trans h.c2,
    (hb.frozen (p := ⟨p, 1, none⟩) hps hp).trans h.f1, (hb.frozen (p := ⟨p, 2, none⟩) hps hp).trans h.f2,
    fun k x hk => (hb.cell (p := ⟨a, k * 2, none⟩) has hA).trans (h.co k x hk), fun k hk => by
      obtain ⟨t, ht⟩ := h.ct k hk
      exact ⟨t, (hb.cell (p := ⟨a, k * 2 + 1, none⟩) has hA).trans ht⟩,
    fun q hq => (hb.frozen (p := ⟨a, q, none⟩) has hA).trans (h.fo q hq),
    by
      have := h.th
      clear h
      induction fl with
      | nil => trivial
      | cons x r ih =>
        obtain ⟨⟨t, h1, h2⟩, h3⟩ := this
        refine ⟨⟨t, (hb.cell (p := ⟨a, x.toNat * 2 + 1, none⟩) has hA).trans h1, ?_⟩, ih h3⟩
        rcases h2 with h2 | ⟨b, e, c, d, n1, n2⟩
        · exact Or.inl h2
        · have hlt := lt_of_cell (p := ⟨b, 0, none⟩) c
          exact Or.inr ⟨b, e, (hb.cell (p := ⟨b, 0, none⟩) hlt (fun q => hS b q hlt _ c d)).trans c, (hb.cell (p := ⟨b, 1, none⟩) hlt (fun q => hS b q hlt _ c d)).trans d, n1, n2⟩,
    h.pa, h.k1, h.k2⟩
theorem Pm.below (h : Pm w p a K O fl) (hb : Below w.heap.size w w') : Pm w' p a K O fl := h.but (Below.but hb fun _ => False) id id (fun _ q => q.elim)
theorem Own.below {w0 : World} (h : But (Own p a) w w') (hB : w0.heap.size ≤ w.heap.size) (hp : w0.heap.size ≤ p) (ha : w0.heap.size ≤ a) : Below w0.heap.size w w' :=
  h.below hB fun k hk e => by rcases e with e | e <;> omega
end

theorem above_any (v : Int) (h : 0 ≤ v ∧ v ≤ 1024) (w : World) : Calls Try.prog 29 #[.int .i64 (v - 1)] w (R1 v w) := by
  have hw : IntKind.i64.wrap (v - 1 + 1) = v := by rw [show v - 1 + 1 = v by omega]; exact IntWalk.i64_in _ (by omega)
  go_enter Try.func29, Try.ntmps29
  go_wp2
  go_ret
  exact ⟨by first | rfl | (simp; done), rfl⟩
theorem behind_any (b : Nat) (v : Int) (w : World) (h : w.cell? ⟨b, 0, none⟩ = some (.int .i64 v)) : Calls Try.prog 86 #[.pointer (some ⟨b, 0, none⟩)] w (R1 v w) := by
  go_enter Try.func86, Try.ntmps86
  go_wp2
  go_ret
  exact ⟨rfl, rfl⟩

section
variable {w : World} {p a K : Nat} {O fl : List Int}
theorem has_any (h : Pm w p a K O fl) (i : Int) :
    Calls Try.prog 43 #[.pointer (some ⟨p, 0, none⟩), .int .i64 i] w (B1 (inB K i) w) := by
  have h0 := h.c0
  unfold inB
  clear h
  by_cases h1 : 0 ≤ i
  · have d1 : decide (0 ≤ i) = true := by simp [h1]
    go_enter Try.func43, Try.ntmps43
    go_wp2
    go_ret
    exact ⟨by simp [h1], rfl⟩
  · have d1 : decide (0 ≤ i) = false := by simp [h1]
    go_enter Try.func43, Try.ntmps43
    go_wp2
    go_ret
    exact ⟨by simp, rfl⟩
theorem owner_any (h : Pm w p a K O fl) (i : Int) :
    Calls Try.prog 18 #[.pointer (some ⟨p, 0, none⟩), .int .i64 i] w (R1 (ownOut O i) w) := by
  have HL := Lib.hid (has_any h i)
  cases hq : inB K i with
  | false =>
    have e : ownOut O i = -1 := by unfold ownOut; rw [h.wf.len, hq]; rfl
    rw [hq] at HL
    rw [e]
    clear e hq h
    go_enter Try.func18, Try.ntmps18
    go_wp2_with fail
    refine HL.out.mono ?_
    rintro e w' ⟨rfl, rfl⟩
    go_wp2
    go_ret
    exact ⟨rfl, rfl⟩
  | true =>
    obtain ⟨k, rfl, hk⟩ := inB_nat hq
    obtain ⟨x, hx, _⟩ := h.wf.ofK hk
    have e : ownOut O (k : Int) = x := by unfold ownOut; rw [h.wf.len, hq, if_pos rfl, Int.toNat_natCast, hx]; rfl
    rw [hq] at HL
    rw [e]
    have h0 := h.c0
    have h1 := h.co k x hx
    have hk2 := h.k2
    clear e hq h hx
    go_enter Try.func18, Try.ntmps18
    go_wp2_with fail
    refine HL.out.mono ?_
    rintro e w' ⟨rfl, rfl⟩
    go_wp2
    go_ret
    exact ⟨rfl, rfl⟩
theorem free_any (h : Pm w p a K O fl) : Calls Try.prog 26 #[.pointer (some ⟨p, 0, none⟩)] w (R1 (fl.length : Int) w) := by
  have h0 := h.c2
  clear h
  go_enter Try.func26, Try.ntmps26
  go_wp2
  go_ret
  exact ⟨rfl, rfl⟩
theorem held_any (h : Pm w p a K O fl) : Calls Try.prog 22 #[.pointer (some ⟨p, 0, none⟩)] w (RQ ((K : Int) - (fl.length : Int)) w) := by
  have h0 := h.c0
  have h2 := h.c2
  have hf := h.wf.few
  have hk := h.k2
  obtain ⟨n, hn⟩ : ∃ n, n = fl.length := ⟨_, rfl⟩
  rw [← hn] at h2 hf ⊢
  have hw : IntKind.i64.wrap ((K : Int) - (n : Int)) = (K : Int) - (n : Int) := IntWalk.i64_in _ (by omega)
  clear h hn
  go_enter Try.func22, Try.ntmps22
  go_wp2_with fail
  go_quiet (fail)
  go_wp2
  go_ret
  exact ⟨rfl, _, rfl⟩
end
end Go.Proofs.Ytijkigibcpgciaa.Pl
