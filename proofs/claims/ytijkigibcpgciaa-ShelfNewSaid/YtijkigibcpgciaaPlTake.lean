/-
  Package pool: Take, met by a contract.
-/
import Derived.Test.YtijkigibcpgciaaPl
namespace Go.Proofs.Ytijkigibcpgciaa.Pl
open Go.ChangeShapes Go.WideShapes Go.ChangeAt Go.RowKit
set_option maxRecDepth 100000

/-- How a call ends that takes a page, or gives one. -/
def TakeEnds (p a K : Nat) (r : List Int × List Int × Int × Int) (w : World) (e : Ending) (w' : World) : Prop :=
  e = .returned (.tuple #[.int .i64 r.2.2.1, .int .i64 r.2.2.2]) ∧ Pm w' p a K r.1 r.2.1 ∧ But (Own p a) w w'
def GiveEnds (p a K : Nat) (r : List Int × List Int × Int) (w : World) (e : Ending) (w' : World) : Prop :=
  e = .returned (.int .i64 r.2.2) ∧ Pm w' p a K r.1 r.2.1 ∧ But (Own p a) w w'
section
variable {w : World} {p a K : Nat} {O fl r : List Int}
/-- Behind Take: first, owner, next, and the count are stored. -/
theorem Pm.took {k : Nat} {o : Int} (h : Pm w p a K O ((k : Int) :: r)) (h0 : 0 ≤ o) (ho : Fit o) :
    Pm ((((w.setCell ⟨p, 1, none⟩ (.int .i64 (hd K r))).setCell ⟨a, k * 2, none⟩ (.int .i64 o)).setCell ⟨a, k * 2 + 1, none⟩ .nilFunc).setCell ⟨p, 2, none⟩ (.int .i64 (r.length : Int))) p a K (O.set k o) r := by
  obtain ⟨k', e, hk⟩ := h.wf.lt (x := (k : Int)) (by simp)
  have e' : k' = k := by omega
  subst e'
  have hpa := h.pa
  have hO := h.wf.len
  obtain ⟨hn, _⟩ := List.nodup_cons.1 h.wf.once
  have other : ∀ (q : Addr) (x : Option Value), (⟨p, 1, none⟩ : Addr) ≠ q → (⟨a, k' * 2, none⟩ : Addr) ≠ q → (⟨a, k' * 2 + 1, none⟩ : Addr) ≠ q → (⟨p, 2, none⟩ : Addr) ≠ q → w.cell? q = x →
      ((((w.setCell ⟨p, 1, none⟩ (.int .i64 (hd K r))).setCell ⟨a, k' * 2, none⟩ (.int .i64 o)).setCell ⟨a, k' * 2 + 1, none⟩ .nilFunc).setCell ⟨p, 2, none⟩ (.int .i64 (r.length : Int))).cell? q = x := by
    intro q x n1 n2 n3 n4 hx
    rw [World.cell?_setCell_other _ _ _ _ n4, World.cell?_setCell_other _ _ _ _ n3, World.cell?_setCell_other _ _ _ _ n2, World.cell?_setCell_other _ _ _ _ n1]
    exact hx
  obtain ⟨t0, ht0⟩ := h.ct k' hk
  obtain ⟨x0, hx0, _⟩ := h.wf.ofK hk
  refine ⟨h.wf.take h0 ho, other _ _ (by simp) (by simp <;> omega) (by simp <;> omega) (by simp) h.c0, ?_, ?_, by simpa using h.f1, by simpa using h.f2, fun j x hj => ?_, fun j hj => ?_, fun q hq => by simpa using h.fo q hq, ?_, h.pa, h.k1, h.k2⟩
  · rw [World.cell?_setCell_other _ _ _ _ (by simp), World.cell?_setCell_other _ _ _ _ (by simp <;> omega), World.cell?_setCell_other _ _ _ _ (by simp <;> omega)]
    exact World.cell?_setCell_same w _ _ h.c1
  · refine World.cell?_setCell_same _ _ _ (show _ = some (.int .i64 (((k' : Int) :: r).length : Int)) from ?_)
    rw [World.cell?_setCell_other _ _ _ _ (by simp <;> omega), World.cell?_setCell_other _ _ _ _ (by simp <;> omega), World.cell?_setCell_other _ _ _ _ (by simp)]
    exact h.c2
  · by_cases z : k' = j
    · subst z
      rw [List.getElem?_set_self (by omega)] at hj
      cases hj
      rw [World.cell?_setCell_other _ _ _ _ (by simp <;> omega), World.cell?_setCell_other _ _ _ _ (by simp)]
      refine World.cell?_setCell_same _ _ _ (show _ = some (.int .i64 x0) from ?_)
      rw [World.cell?_setCell_other _ _ _ _ (by simp <;> omega)]
      exact h.co k' x0 hx0
    · rw [List.getElem?_set_ne z] at hj
      exact other _ _ (by simp <;> omega) (by simp <;> omega) (by simp <;> omega) (by simp <;> omega) (h.co j x hj)
  · by_cases z : j = k'
    · subst z
      refine ⟨.nilFunc, ?_⟩
      rw [World.cell?_setCell_other _ _ _ _ (by simp <;> omega)]
      refine World.cell?_setCell_same _ _ _ (show _ = some t0 from ?_)
      rw [World.cell?_setCell_other _ _ _ _ (by simp), World.cell?_setCell_other _ _ _ _ (by simp <;> omega)]
      exact ht0
    · obtain ⟨t, ht⟩ := h.ct j hj
      exact ⟨t, other _ _ (by simp <;> omega) (by simp <;> omega) (by simp <;> omega) (by simp <;> omega) ht⟩
  · refine h.th.2.keep (fun y hy t ht => ?_) (fun b j x n1 n2 _ hx => ?_)
    · obtain ⟨j, ej, _⟩ := h.wf.lt (x := y) (by simp [hy])
      have hne : j ≠ k' := fun q => hn (by rw [← q, ← ej]; exact hy)
      subst ej
      rw [Int.toNat_natCast] at ht ⊢
      exact other _ _ (by simp <;> omega) (by simp <;> omega) (by simp <;> omega) (by simp <;> omega) ht
    · exact other _ _ (by simp <;> omega) (by simp <;> omega) (by simp <;> omega) (by simp <;> omega) hx

theorem take_arg (h : Pm w p a K O fl) (o : Int) (ho : o < 0) :
    Calls Try.prog 68 #[.pointer (some ⟨p, 0, none⟩), .int .i64 o] w (TakeEnds p a K (O, fl, 0, 1) w) := by
  have H := Lib.hid h
  have d1 : decide (o < 0) = true := by simpa using ho
  clear h ho
  go_enter Try.func68, Try.ntmps68
  go_wp2
  go_ret2
  exact ⟨rfl, H.out, But.refl _ _⟩
theorem take_none (h : Pm w p a K O []) (o : Int) (ho : 0 ≤ o) :
    Calls Try.prog 68 #[.pointer (some ⟨p, 0, none⟩), .int .i64 o] w (TakeEnds p a K (O, [], 0, 5) w) := by
  have H := Lib.hid h
  have c2 : w.cell? ⟨p, 2, none⟩ = some (.int .i64 0) := h.c2
  have d1 : decide (o < 0) = false := by simpa using ho
  clear h ho
  go_enter Try.func68, Try.ntmps68
  go_wp2
  go_ret2
  exact ⟨rfl, H.out, But.refl _ _⟩
theorem take_ok {k : Nat} (h : Pm w p a K O ((k : Int) :: r)) (o : Int) (h0 : 0 ≤ o) (ho : Fit o) :
    Calls Try.prog 68 #[.pointer (some ⟨p, 0, none⟩), .int .i64 o] w (TakeEnds p a K (O.set k o, r, k, 0) w) := by
  have H := Lib.hid (h.took h0 ho)
  have c0 := h.c0
  have c1 : w.cell? ⟨p, 1, none⟩ = some (.int .i64 (k : Int)) := h.c1
  have c2 := h.c2
  have f1 := h.f1
  have f2 := h.f2
  obtain ⟨k', e, hk⟩ := h.wf.lt (x := (k : Int)) (by simp)
  obtain rfl : k' = k := by omega
  have k2 := h.k2
  have g0 := h.fo (k' * 2) (by omega)
  have g1 := h.fo (k' * 2 + 1) (by omega)
  have hpa := h.pa
  have hap : ¬ a = p := fun q => hpa q.symm
  obtain ⟨x0, hx0, _⟩ := h.wf.ofK hk
  have c3 := h.co k' x0 hx0
  obtain ⟨⟨t, c4, ht⟩, _⟩ := h.th
  rw [Int.toNat_natCast] at c4
  have hhd := (h.wf.take h0 ho).head
  have hfew := h.wf.few
  obtain ⟨n, hn⟩ : ∃ n, n = r.length := ⟨_, rfl⟩
  rw [List.length_cons, ← hn] at c2 hfew
  rw [← hn] at H
  generalize hd K r = v at H ht hhd
  have hst : ∀ (q : Addr) (m : Mode) (u : World), (store q .nilFunc m).run Try.prog u = stored Try.prog u q .nilFunc m := fun q m u => run_store Try.prog u q _ m rfl
  clear hn
  have d1 : decide (o < 0) = false := by simpa using h0
  have e1 : (((n + 1 : Nat) : Int) == 0) = false := beq_eq_false_iff_ne.2 (by omega)
  have hw : IntKind.i64.wrap (((n + 1 : Nat) : Int) - 1) = (n : Int) := by rw [show ((n + 1 : Nat) : Int) - 1 = (n : Int) by omega]; exact IntWalk.i64_in _ (by omega)
  have HB : Hid (But (Own p a) w ((((w.setCell ⟨p, 1, none⟩ (.int .i64 v)).setCell ⟨a, k' * 2, none⟩ (.int .i64 o)).setCell ⟨a, k' * 2 + 1, none⟩ .nilFunc).setCell ⟨p, 2, none⟩ (.int .i64 (n : Int)))) :=
    Lib.hid (((((But.refl _ w).setCell (p := ⟨p, 1, none⟩) (fun _ => Or.inl rfl) _).setCell (p := ⟨a, k' * 2, none⟩) (fun _ => Or.inr rfl) _).setCell (p := ⟨a, k' * 2 + 1, none⟩) (fun _ => Or.inr rfl) _).setCell (p := ⟨p, 2, none⟩) (fun _ => Or.inl rfl) _)
  rcases ht with rfl | ⟨b, rfl, hb, _, _, _⟩
  · have HC := Lib.hid (above_any v (by omega) w)
    clear h
    go_enter Try.func68, Try.ntmps68
    go_wp2_with fail
    refine HC.out.mono ?_
    rintro e w' ⟨rfl, rfl⟩
    go_wp2
    go_ret2
    exact ⟨rfl, H.out, HB.out⟩
  · have HC := Lib.hid (behind_any b v w hb)
    clear h
    go_enter Try.func68, Try.ntmps68
    go_wp2_with fail
    refine HC.out.mono ?_
    rintro e w' ⟨rfl, rfl⟩
    go_wp2
    go_ret2
    exact ⟨rfl, H.out, HB.out⟩
end
end Go.Proofs.Ytijkigibcpgciaa.Pl
