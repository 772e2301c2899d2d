/-
  Package proxy: Take, met by a contract.
-/
import Derived.Test.YtelhhhmmkdbagaaDoorProxy
namespace Go.Proofs.YtelhhhmmkdbagaaDoor
open Go.ChangeShapes Go.WideShapes Go.ChangeAt Go.RowKit

/-- How a call ends that takes a handle, or gives one back. -/
def TakeEnds (p a K : Nat) (M : Int) (r : Tb × Int × Int × Int) (w : World) (e : Ending) (w' : World) : Prop :=
  e = .returned (.tuple #[.int .i64 r.2.1, .int .i64 r.2.2.1, .int .i64 r.2.2.2]) ∧ Tm w' p a K M r.1 ∧ But (Own p a) w w'
def GiveEnds (p a K : Nat) (M : Int) (r : Tb × Int) (w : World) (e : Ending) (w' : World) : Prop :=
  e = .returned (.int .i64 r.2) ∧ Tm w' p a K M r.1 ∧ But (Own p a) w w'
section
variable {w w' : World} {p a K : Nat} {M : Int} {T T' : Tb}
/-- A table of which one slot is another one. -/
theorem Tm.remake (h : Tm w p a K M T) (hb : But (Own p a) w w') (hf : ∀ q, w'.frozen? q = w.frozen? q) (hw : Tw K M T')
    (e0 : w'.cell? ⟨p, 0, none⟩ = w.cell? ⟨p, 0, none⟩) (e1 : w'.cell? ⟨p, 1, none⟩ = w.cell? ⟨p, 1, none⟩)
    (e2 : w'.cell? ⟨p, 2, none⟩ = some (.int .i64 (hd K T'.fl))) (e3 : w'.cell? ⟨p, 3, none⟩ = some (.int .i64 (T'.fl.length : Int)))
    (e4 : w'.cell? ⟨p, 4, none⟩ = some (.int .i64 (T'.L.count true : Int))) (e5 : w'.cell? ⟨p, 5, none⟩ = some (.int .i64 ((K - T'.fl.length - T'.L.count true : Nat) : Int)))
    (k : Nat) (g : Int) (b : Bool) (t : Value) (hG : T'.G[k]? = some g) (hL : T'.L[k]? = some b)
    (s0 : w'.cell? ⟨a, k * 3, none⟩ = some (.int .i64 (kindOf M g b))) (s1 : w'.cell? ⟨a, k * 3 + 1, none⟩ = some (.int .i64 g)) (s2 : w'.cell? ⟨a, k * 3 + 2, none⟩ = some t) (hn : Nx t)
    (ho : ∀ j, j ≠ k → T'.G[j]? = T.G[j]? ∧ T'.L[j]? = T.L[j]? ∧ w'.cell? ⟨a, j * 3, none⟩ = w.cell? ⟨a, j * 3, none⟩ ∧ w'.cell? ⟨a, j * 3 + 1, none⟩ = w.cell? ⟨a, j * 3 + 1, none⟩ ∧ w'.cell? ⟨a, j * 3 + 2, none⟩ = w.cell? ⟨a, j * 3 + 2, none⟩)
    (ht : Thr w' a K T'.fl) : Tm w' p a K M T' := by
  refine ⟨hw, h.bd.but hb (fun e => by rcases e with e | e; exact h.p0 e.symm; exact h.a0 e.symm), e0.trans h.c0, e1.trans h.c1, e2, e3, e4, e5, fun q hq => (hf _).trans (h.fp q hq), fun j g' b' hg' hb' => ?_, fun j hj => ?_, fun q hq => (hf _).trans (h.fo q hq), ht, h.pa, h.p0, h.a0, h.k1, h.k2, h.m1, h.m2⟩
  · by_cases z : j = k
    · subst z
      obtain rfl : g = g' := Option.some.inj (hG.symm.trans hg')
      obtain rfl : b = b' := Option.some.inj (hL.symm.trans hb')
      exact ⟨s0, s1⟩
    · obtain ⟨x1, x2, x3, x4, _⟩ := ho j z
      rw [x3, x4]
      exact h.ci j g' b' (x1.symm.trans hg') (x2.symm.trans hb')
  · by_cases z : j = k
    · subst z
      exact ⟨t, s2, hn⟩
    · rw [(ho j z).2.2.2.2]
      exact h.ct j hj
end

section
variable {w : World} {p a K : Nat} {M : Int} {T : Tb} {G : List Int} {L : List Bool} {r : List Int}
/-- Behind Take: first and next are stored, and the slot is live. -/
theorem Tm.took {k : Nat} {g : Int} (h : Tm w p a K M ⟨G, L, (k : Int) :: r⟩) (hg : G[k]? = some g) :
    Tm (turned ((w.setCell ⟨p, 2, none⟩ (.int .i64 (hd K r))).setCell ⟨a, k * 3 + 2, none⟩ .nilFunc) p a k 0 1 ((r.length + 1 : Nat) : Int) (L.count true : Int)) p a K M ⟨G, L.set k true, r⟩ ∧
      But (Own p a) w (turned ((w.setCell ⟨p, 2, none⟩ (.int .i64 (hd K r))).setCell ⟨a, k * 3 + 2, none⟩ .nilFunc) p a k 0 1 ((r.length + 1 : Nat) : Int) (L.count true : Int)) := by
  have hpa := h.pa
  obtain ⟨k', ek, hk0, g', hg', hgM⟩ := h.wf.free (k : Int) (by simp)
  obtain rfl : k' = k := by omega
  have hk0' : L[k']? = some false := hk0
  obtain ⟨_, _, hk⟩ : ∃ j : Nat, (k' : Int) = (j : Int) ∧ k' < K := by
    obtain ⟨j, e, hj⟩ := h.wf.lt (x := (k' : Int)) (by simp)
    exact ⟨j, e, by omega⟩
  obtain ⟨hno, _⟩ := List.nodup_cons.1 h.wf.once
  obtain ⟨t0, ct, _⟩ := h.ct k' hk
  obtain ⟨ci, cg⟩ := h.ci k' g false hg hk0
  have hB : But (Own p a) w (turned ((w.setCell ⟨p, 2, none⟩ (.int .i64 (hd K r))).setCell ⟨a, k' * 3 + 2, none⟩ .nilFunc) p a k' 0 1 ((r.length + 1 : Nat) : Int) (L.count true : Int)) :=
    (((((But.refl _ w).setCell (p := ⟨p, 2, none⟩) (fun _ => Or.inl rfl) _).setCell (p := ⟨a, k' * 3 + 2, none⟩) (fun _ => Or.inr rfl) _).setCell (p := ⟨p, 3, none⟩) (fun _ => Or.inl rfl) _).setCell (p := ⟨a, k' * 3, none⟩) (fun _ => Or.inr rfl) _).setCell (p := ⟨p, 4, none⟩) (fun _ => Or.inl rfl) _
  refine ⟨?_, hB⟩
  have hT := h.wf.took
  have hcnt := count_on hk0'
  have hs : (r.length + 1) + L.count true ≤ K := h.wf.sum
  obtain ⟨w', hw'⟩ : ∃ w', w' = turned ((w.setCell ⟨p, 2, none⟩ (.int .i64 (hd K r))).setCell ⟨a, k' * 3 + 2, none⟩ .nilFunc) p a k' 0 1 ((r.length + 1 : Nat) : Int) (L.count true : Int) := ⟨_, rfl⟩
  rw [← hw'] at hB ⊢
  have c3 := h.c3
  have c4 := h.c4
  have c5 := h.c5
  unfold turned at hw'
  have other : ∀ j, j ≠ k' → w'.cell? ⟨a, j * 3, none⟩ = w.cell? ⟨a, j * 3, none⟩ ∧ w'.cell? ⟨a, j * 3 + 1, none⟩ = w.cell? ⟨a, j * 3 + 1, none⟩ ∧ w'.cell? ⟨a, j * 3 + 2, none⟩ = w.cell? ⟨a, j * 3 + 2, none⟩ := fun j hj => by
    rw [hw']
    refine ⟨?_, ?_, ?_⟩ <;>
    · rw [World.cell?_setCell_other _ _ _ _ (by simp <;> omega), World.cell?_setCell_other _ _ _ _ (by simp <;> omega), World.cell?_setCell_other _ _ _ _ (by simp <;> omega), World.cell?_setCell_other _ _ _ _ (by simp <;> omega), World.cell?_setCell_other _ _ _ _ (by simp <;> omega)]
  refine h.remake hB (fun q => by rw [hw']; simp) hT ?_ ?_ ?_ ?_ ?_ ?_ k' g true .nilFunc hg (get_set true hk0') ?_ ?_ ?_ (Or.inl rfl) (fun j hj => ⟨rfl, List.getElem?_set_ne (fun q => hj q.symm), other j hj⟩) ?_
  · rw [hw']
    rw [World.cell?_setCell_other _ _ _ _ (by simp <;> omega), World.cell?_setCell_other _ _ _ _ (by simp <;> omega), World.cell?_setCell_other _ _ _ _ (by simp <;> omega), World.cell?_setCell_other _ _ _ _ (by simp <;> omega), World.cell?_setCell_other _ _ _ _ (by simp <;> omega)]
  · rw [hw']
    rw [World.cell?_setCell_other _ _ _ _ (by simp <;> omega), World.cell?_setCell_other _ _ _ _ (by simp <;> omega), World.cell?_setCell_other _ _ _ _ (by simp <;> omega), World.cell?_setCell_other _ _ _ _ (by simp <;> omega), World.cell?_setCell_other _ _ _ _ (by simp <;> omega)]
  · rw [hw']
    rw [World.cell?_setCell_other _ _ _ _ (by simp <;> omega), World.cell?_setCell_other _ _ _ _ (by simp <;> omega), World.cell?_setCell_other _ _ _ _ (by simp <;> omega), World.cell?_setCell_other _ _ _ _ (by simp <;> omega)]
    exact World.cell?_setCell_same w _ _ h.c2
  · rw [hw']
    rw [World.cell?_setCell_other _ _ _ _ (by simp <;> omega), World.cell?_setCell_other _ _ _ _ (by simp <;> omega)]
    rw [World.cell?_setCell_same _ ⟨p, 3 + 0, none⟩ _ (show _ = some (.int .i64 ((((k' : Int) :: r).length : Nat) : Int)) by
      rw [World.cell?_setCell_other _ _ _ _ (by simp <;> omega), World.cell?_setCell_other _ _ _ _ (by simp <;> omega)]
      exact c3)]
    show some (Value.int .i64 (((r.length + 1 : Nat) : Int) - 1)) = some (.int .i64 (r.length : Int))
    rw [show ((r.length + 1 : Nat) : Int) - 1 = (r.length : Int) by omega]
  · rw [hw']
    rw [World.cell?_setCell_same _ ⟨p, 3 + 1, none⟩ _ (show _ = some (.int .i64 (L.count true : Int)) by
      rw [World.cell?_setCell_other _ _ _ _ (by simp <;> omega), World.cell?_setCell_other _ _ _ _ (by simp <;> omega), World.cell?_setCell_other _ _ _ _ (by simp <;> omega), World.cell?_setCell_other _ _ _ _ (by simp <;> omega)]
      exact c4)]
    show some (Value.int .i64 ((L.count true : Int) + 1)) = some (.int .i64 (((L.set k' true).count true : Nat) : Int))
    rw [hcnt]
    rfl
  · rw [hw']
    rw [World.cell?_setCell_other _ _ _ _ (by simp <;> omega), World.cell?_setCell_other _ _ _ _ (by simp <;> omega), World.cell?_setCell_other _ _ _ _ (by simp <;> omega), World.cell?_setCell_other _ _ _ _ (by simp <;> omega), World.cell?_setCell_other _ _ _ _ (by simp <;> omega), c5]
    show some (Value.int .i64 ((K - (r.length + 1) - L.count true : Nat) : Int)) = some (.int .i64 ((K - r.length - (L.set k' true).count true : Nat) : Int))
    rw [hcnt, show K - (r.length + 1) - L.count true = K - r.length - (L.count true + 1) by omega]
  · rw [hw']
    rw [World.cell?_setCell_other _ _ _ _ (by simp <;> omega)]
    refine World.cell?_setCell_same _ ⟨a, k' * 3, none⟩ _ (show _ = some (.int .i64 (kindOf M g false)) from ?_)
    rw [World.cell?_setCell_other _ _ _ _ (by simp <;> omega), World.cell?_setCell_other _ _ _ _ (by simp <;> omega), World.cell?_setCell_other _ _ _ _ (by simp <;> omega)]
    exact ci
  · rw [hw']
    rw [World.cell?_setCell_other _ _ _ _ (by simp <;> omega), World.cell?_setCell_other _ _ _ _ (by simp <;> omega), World.cell?_setCell_other _ _ _ _ (by simp <;> omega), World.cell?_setCell_other _ _ _ _ (by simp <;> omega), World.cell?_setCell_other _ _ _ _ (by simp <;> omega)]
    exact cg
  · rw [hw']
    rw [World.cell?_setCell_other _ _ _ _ (by simp <;> omega), World.cell?_setCell_other _ _ _ _ (by simp <;> omega), World.cell?_setCell_other _ _ _ _ (by simp <;> omega)]
    refine World.cell?_setCell_same _ ⟨a, k' * 3 + 2, none⟩ _ (show _ = some t0 from ?_)
    rw [World.cell?_setCell_other _ _ _ _ (by simp <;> omega)]
    exact ct
  · refine h.th.2.keep (fun y hy t ht => ?_)
    obtain ⟨j, ej, _⟩ := h.wf.lt (x := y) (by simp [hy])
    have hne : j ≠ k' := fun q => hno (by rw [← q, ← ej]; exact hy)
    subst ej
    rw [Int.toNat_natCast] at ht ⊢
    exact (other j hne).2.2.trans ht

theorem take_none (h : Tm w p a K M T) (e : T.fl = []) :
    Calls Tryd.prog 17 #[.pointer (some ⟨p, 0, none⟩)] w (TakeEnds p a K M (T, 0, 0, 4) w) := by
  have H := Lib.hid h
  have c3 : w.cell? ⟨p, 3, none⟩ = some (.int .i64 0) := by have := h.c3; rw [e] at this; exact this
  clear h e
  go_enter Tryd.func17, Tryd.ntmps17
  go_wp2
  go_ret3
  exact ⟨rfl, H.out, But.refl _ _⟩
set_option maxHeartbeats 1000000 in
theorem take_ok {k : Nat} {g : Int} (h : Tm w p a K M ⟨G, L, (k : Int) :: r⟩) (hg : G[k]? = some g) :
    Calls Tryd.prog 17 #[.pointer (some ⟨p, 0, none⟩)] w (TakeEnds p a K M (⟨G, L.set k true, r⟩, 4096 * g + (k : Int), (k : Int), 0) w) := by
  obtain ⟨k', ek, hk0, g', hg', hgM⟩ := h.wf.free (k : Int) (by simp)
  obtain rfl : k' = k := by omega
  obtain rfl : g' = g := Option.some.inj (hg'.symm.trans hg)
  have hk : k' < K := by obtain ⟨j, e, hj⟩ := h.wf.lt (x := (k' : Int)) (by simp); omega
  have k2 := h.k2
  have m2 := h.m2
  have g1 := (h.wf.gen k' g' hg).1
  have hpa := h.pa
  have hap : ¬ a = p := fun q => hpa q.symm
  have HJ := join_any (k' : Int) g' w h.bd
  obtain ⟨j1, j2⟩ := join_on (mayB_on (x := (k' : Int)) (y := g') (by omega))
  rw [j1, j2] at HJ
  have J := Lib.hid HJ
  have HW := Lib.hid h
  have HG := Lib.hid hg
  have HK0 := Lib.hid hk0
  have c0 := h.c0
  have c2 : w.cell? ⟨p, 2, none⟩ = some (.int .i64 (k' : Int)) := h.c2
  have c3 : w.cell? ⟨p, 3, none⟩ = some (.int .i64 ((r.length + 1 : Nat) : Int)) := h.c3
  have cg := (h.ci k' g' false hg hk0).2
  have hs : (r.length + 1) + L.count true ≤ K := h.wf.sum
  have e1 : (((r.length + 1 : Nat) : Int) == 0) = false := beq_eq_false_iff_ne.2 (by omega)
  obtain ⟨h3, hh3⟩ : ∃ h3, 4096 * g' + (k' : Int) = h3 := ⟨_, rfl⟩
  rw [hh3] at J ⊢
  clear h HJ j1 j2 hg hg' hk0 ek hh3
  go_enter Tryd.func17, Tryd.ntmps17
  go_wp2_with fail
  refine J.out.mono ?_
  rintro e w1 ⟨rfl, b1⟩
  have h1 := HW.out.below b1
  have H1 := Lib.hid h1
  have B1 := Lib.hid b1
  have z2 : w1.cell? ⟨p, 2, none⟩ = some (.int .i64 (k' : Int)) := h1.c2
  have z3 : w1.cell? ⟨p, 3, none⟩ = some (.int .i64 ((r.length + 1 : Nat) : Int)) := h1.c3
  have z4 : w1.cell? ⟨p, 4, none⟩ = some (.int .i64 (L.count true : Int)) := h1.c4
  have zt : w1.cell? ⟨a, k' * 3 + 2, none⟩ = some (tell (hd K r)) := by have := h1.th.1; rwa [Int.toNat_natCast] at this
  have zi : w1.cell? ⟨a, k' * 3, none⟩ = some (.int .i64 0) := by have := (h1.ci k' g' false HG.out HK0.out).1; rwa [show kindOf M g' false = 0 by simp [kindOf, hgM]] at this
  have f2 := h1.fp 2 (by omega)
  have f3 := h1.fp 3 (by omega)
  have f4 := h1.fp 4 (by omega)
  have g0 := h1.fo (k' * 3) (by omega)
  have g2 := h1.fo (k' * 3 + 2) (by omega)
  have hst : ∀ (q : Addr) (m : Mode) (u : World), (store q .nilFunc m).run Tryd.prog u = stored Tryd.prog u q .nilFunc m := fun q m u => run_store Tryd.prog u q _ m rfl
  have HT := Lib.hid (H1.out.took HG.out)
  have TU : Hid (Calls Tryd.prog 27 #[.pointer (some ⟨p, 0, none⟩), .pointer (some ⟨a, k' * 3, none⟩), .int .i64 1] ((w1.setCell ⟨p, 2, none⟩ (.int .i64 (hd K r))).setCell ⟨a, k' * 3 + 2, none⟩ .nilFunc) (TurnEnds p a k' 0 1 ((r.length + 1 : Nat) : Int) (L.count true : Int) ((w1.setCell ⟨p, 2, none⟩ (.int .i64 (hd K r))).setCell ⟨a, k' * 3 + 2, none⟩ .nilFunc))) :=
    Lib.hid (turn_01 hpa
      (by rw [World.cell?_setCell_other _ _ _ _ (by simp <;> omega), World.cell?_setCell_other _ _ _ _ (by simp <;> omega)]; exact z3)
      (by rw [World.cell?_setCell_other _ _ _ _ (by simp <;> omega), World.cell?_setCell_other _ _ _ _ (by simp <;> omega)]; exact z4)
      (by rw [World.cell?_setCell_other _ _ _ _ (by simp <;> omega), World.cell?_setCell_other _ _ _ _ (by simp <;> omega)]; exact zi)
      (by simpa using f3) (by simpa using f4) (by simpa using g0) (by omega) (by omega))
  generalize hd K r = v at zt HT TU
  have SL := Lib.hid (slot_any v w1)
  clear h1 b1 c0 c2 c3 cg z3 z4 zi J
  have c0 := H1.out.c0
  go_wp2_with fail
  refine SL.out.mono ?_
  rintro e w2 ⟨rfl, rfl⟩
  go_wp2_with fail
  refine TU.out.mono ?_
  rintro e w3 ⟨rfl, d, rfl⟩
  go_wp2
  go_ret3
  exact ⟨rfl, HT.out.1.below (belowN (Below.refl _ _) d), ((Below.but B1.out (Own p a)).trans HT.out.2).drewN d⟩
theorem take_any (h : Tm w p a K M T) : Calls Tryd.prog 17 #[.pointer (some ⟨p, 0, none⟩)] w (TakeEnds p a K M (takeOut T) w) := by
  obtain ⟨G, L, fl⟩ := T
  cases fl with
  | nil => rw [take_none_eq rfl]; exact take_none h rfl
  | cons x r =>
    obtain ⟨k, rfl, _, g, hg, _⟩ := h.wf.free x (by simp)
    rw [take_ok_eq hg]
    exact take_ok h hg
end
end Go.Proofs.YtelhhhmmkdbagaaDoor
