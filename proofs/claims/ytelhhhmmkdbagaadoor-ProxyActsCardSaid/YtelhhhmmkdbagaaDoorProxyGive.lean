/-
  Package proxy: Give, met by a contract; and all that is asked of a table that is nil.
-/
import Derived.Test.YtelhhhmmkdbagaaDoorProxyTake
namespace Go.Proofs.YtelhhhmmkdbagaaDoor
open Go.ChangeShapes Go.WideShapes Go.ChangeAt Go.RowKit

/-- A slot's generation is one more. -/
structure Up (w w2 : World) (p a k : Nat) (g : Int) : Prop where
  cell : ∀ q, q ≠ (⟨a, k * 3 + 1, none⟩ : Addr) → w2.cell? q = w.cell? q
  one : w2.cell? ⟨a, k * 3 + 1, none⟩ = some (.int .i64 (g + 1))
  frozen : ∀ q, w2.frozen? q = w.frozen? q
  but : But (Own p a) w w2
theorem Up.of {w : World} {p a k : Nat} {g : Int} (h : w.cell? ⟨a, k * 3 + 1, none⟩ = some (.int .i64 g)) (d : Nat) : Up w ((w.setCell ⟨a, k * 3 + 1, none⟩ (.int .i64 (g + 1))).drewN d) p a k g :=
  ⟨fun q hq => World.cell?_setCell_other w ⟨a, k * 3 + 1, none⟩ q (.int .i64 (g + 1)) (fun e => hq e.symm), World.cell?_setCell_same w _ _ h, fun q => (by simp : (w.setCell ⟨a, k * 3 + 1, none⟩ (.int .i64 (g + 1))).frozen? q = w.frozen? q),
    ((But.refl _ w).setCell (p := ⟨a, k * 3 + 1, none⟩) (fun _ => Or.inr rfl) _).drewN d⟩
section
variable {w w2 : World} {p a K : Nat} {M : Int} {T : Tb} {G : List Int} {L : List Bool} {fl : List Int} {k : Nat} {g n : Int}
/-- Behind Give, where the slot is free again. -/
theorem Tm.freed (h : Tm w p a K M ⟨G, L, fl⟩) (hG : G[k]? = some g) (hL : L[k]? = some true) (hm : g + 1 ≤ M) (u : Up w w2 p a k g) :
    Tm (turned ((w2.setCell ⟨a, k * 3 + 2, none⟩ (tell (hd K fl))).setCell ⟨p, 2, none⟩ (.int .i64 (k : Int))) p a k 1 0 (L.count true : Int) (fl.length : Int)) p a K M ⟨G.set k (g + 1), L.set k false, (k : Int) :: fl⟩ ∧
      But (Own p a) w (turned ((w2.setCell ⟨a, k * 3 + 2, none⟩ (tell (hd K fl))).setCell ⟨p, 2, none⟩ (.int .i64 (k : Int))) p a k 1 0 (L.count true : Int) (fl.length : Int)) := by
  have hpa := h.pa
  have hk : k < K := by rw [← h.wf.ll]; exact (List.getElem?_eq_some_iff.1 hL).1
  obtain ⟨t0, ct, _⟩ := h.ct k hk
  obtain ⟨ci, cg⟩ := h.ci k g true hG hL
  have hB : But (Own p a) w (turned ((w2.setCell ⟨a, k * 3 + 2, none⟩ (tell (hd K fl))).setCell ⟨p, 2, none⟩ (.int .i64 (k : Int))) p a k 1 0 (L.count true : Int) (fl.length : Int)) :=
    u.but.trans ((((((But.refl _ w2).setCell (p := ⟨a, k * 3 + 2, none⟩) (fun _ => Or.inr rfl) _).setCell (p := ⟨p, 2, none⟩) (fun _ => Or.inl rfl) _).setCell (p := ⟨p, 4, none⟩) (fun _ => Or.inl rfl) _).setCell (p := ⟨a, k * 3, none⟩) (fun _ => Or.inr rfl) _).setCell (p := ⟨p, 3, none⟩) (fun _ => Or.inl rfl) _)
  refine ⟨?_, hB⟩
  have hT : Tw K M ⟨G.set k (g + 1), L.set k false, (k : Int) :: fl⟩ := by have := h.wf.gave hL hG; rwa [if_pos hm] at this
  have hcnt := count_off hL
  have hs : fl.length + L.count true ≤ K := h.wf.sum
  obtain ⟨hno, _⟩ := List.nodup_cons.1 hT.once
  obtain ⟨w', hw'⟩ : ∃ w', w' = turned ((w2.setCell ⟨a, k * 3 + 2, none⟩ (tell (hd K fl))).setCell ⟨p, 2, none⟩ (.int .i64 (k : Int))) p a k 1 0 (L.count true : Int) (fl.length : Int) := ⟨_, rfl⟩
  rw [← hw'] at hB ⊢
  have c2 : w2.cell? ⟨p, 2, none⟩ = some (.int .i64 (hd K fl)) := (u.cell _ (by simp <;> omega)).trans h.c2
  have c3 : w2.cell? ⟨p, 3, none⟩ = some (.int .i64 (fl.length : Int)) := (u.cell _ (by simp <;> omega)).trans h.c3
  have c4 : w2.cell? ⟨p, 4, none⟩ = some (.int .i64 (L.count true : Int)) := (u.cell _ (by simp <;> omega)).trans h.c4
  have c5 := (u.cell ⟨p, 5, none⟩ (by simp <;> omega)).trans h.c5
  have di := (u.cell ⟨a, k * 3, none⟩ (by simp <;> omega)).trans ci
  have dt := (u.cell ⟨a, k * 3 + 2, none⟩ (by simp <;> omega)).trans ct
  unfold turned at hw'
  have other : ∀ j, j ≠ k → w'.cell? ⟨a, j * 3, none⟩ = w.cell? ⟨a, j * 3, none⟩ ∧ w'.cell? ⟨a, j * 3 + 1, none⟩ = w.cell? ⟨a, j * 3 + 1, none⟩ ∧ w'.cell? ⟨a, j * 3 + 2, none⟩ = w.cell? ⟨a, j * 3 + 2, none⟩ := fun j hj => by
    rw [hw']
    refine ⟨?_, ?_, ?_⟩ <;>
    · rw [World.cell?_setCell_other _ _ _ _ (by simp <;> omega), World.cell?_setCell_other _ _ _ _ (by simp <;> omega), World.cell?_setCell_other _ _ _ _ (by simp <;> omega), World.cell?_setCell_other _ _ _ _ (by simp <;> omega), World.cell?_setCell_other _ _ _ _ (by simp <;> omega)]
      exact u.cell _ (by simp <;> omega)
  have nxt : w'.cell? ⟨a, k * 3 + 2, none⟩ = some (tell (hd K fl)) := by
    rw [hw']
    rw [World.cell?_setCell_other _ _ _ _ (by simp <;> omega), World.cell?_setCell_other _ _ _ _ (by simp <;> omega), World.cell?_setCell_other _ _ _ _ (by simp <;> omega), World.cell?_setCell_other _ _ _ _ (by simp <;> omega)]
    exact World.cell?_setCell_same _ ⟨a, k * 3 + 2, none⟩ _ dt
  refine h.remake hB (fun q => by rw [hw']; simpa using u.frozen q) hT ?_ ?_ ?_ ?_ ?_ ?_ k (g + 1) false (tell (hd K fl)) (get_set (g + 1) hG) (get_set false hL) ?_ ?_ nxt (Or.inr ⟨_, rfl⟩) (fun j hj => ⟨List.getElem?_set_ne (fun q => hj q.symm), List.getElem?_set_ne (fun q => hj q.symm), other j hj⟩) ⟨?_, ?_⟩
  · rw [hw']
    rw [World.cell?_setCell_other _ _ _ _ (by simp <;> omega), World.cell?_setCell_other _ _ _ _ (by simp <;> omega), World.cell?_setCell_other _ _ _ _ (by simp <;> omega), World.cell?_setCell_other _ _ _ _ (by simp <;> omega), World.cell?_setCell_other _ _ _ _ (by simp <;> omega)]
    exact u.cell _ (by simp <;> omega)
  · rw [hw']
    rw [World.cell?_setCell_other _ _ _ _ (by simp <;> omega), World.cell?_setCell_other _ _ _ _ (by simp <;> omega), World.cell?_setCell_other _ _ _ _ (by simp <;> omega), World.cell?_setCell_other _ _ _ _ (by simp <;> omega), World.cell?_setCell_other _ _ _ _ (by simp <;> omega)]
    exact u.cell _ (by simp <;> omega)
  · rw [hw']
    rw [World.cell?_setCell_other _ _ _ _ (by simp <;> omega), World.cell?_setCell_other _ _ _ _ (by simp <;> omega), World.cell?_setCell_other _ _ _ _ (by simp <;> omega)]
    refine World.cell?_setCell_same _ ⟨p, 2, none⟩ _ (show _ = some (.int .i64 (hd K fl)) from ?_)
    rw [World.cell?_setCell_other _ _ _ _ (by simp <;> omega)]
    exact c2
  · rw [hw']
    rw [World.cell?_setCell_same _ ⟨p, 3 + 0, none⟩ _ (show _ = some (.int .i64 (fl.length : Int)) by
      rw [World.cell?_setCell_other _ _ _ _ (by simp <;> omega), World.cell?_setCell_other _ _ _ _ (by simp <;> omega), World.cell?_setCell_other _ _ _ _ (by simp <;> omega), World.cell?_setCell_other _ _ _ _ (by simp <;> omega)]
      exact c3)]
    rfl
  · rw [hw']
    rw [World.cell?_setCell_other _ _ _ _ (by simp <;> omega), World.cell?_setCell_other _ _ _ _ (by simp <;> omega)]
    rw [World.cell?_setCell_same _ ⟨p, 3 + 1, none⟩ _ (show _ = some (.int .i64 (L.count true : Int)) by
      rw [World.cell?_setCell_other _ _ _ _ (by simp <;> omega), World.cell?_setCell_other _ _ _ _ (by simp <;> omega)]
      exact c4)]
    show some (Value.int .i64 ((L.count true : Int) - 1)) = some (.int .i64 (((L.set k false).count true : Nat) : Int))
    rw [show (L.count true : Int) - 1 = ((L.set k false).count true : Int) by omega]
  · rw [hw']
    rw [World.cell?_setCell_other _ _ _ _ (by simp <;> omega), World.cell?_setCell_other _ _ _ _ (by simp <;> omega), World.cell?_setCell_other _ _ _ _ (by simp <;> omega), World.cell?_setCell_other _ _ _ _ (by simp <;> omega), World.cell?_setCell_other _ _ _ _ (by simp <;> omega)]
    rw [c5]
    show some (Value.int .i64 ((K - fl.length - L.count true : Nat) : Int)) = some (.int .i64 ((K - (fl.length + 1) - (L.set k false).count true : Nat) : Int))
    rw [show K - fl.length - L.count true = K - (fl.length + 1) - (L.set k false).count true by omega]
  · rw [hw']
    rw [World.cell?_setCell_other _ _ _ _ (by simp <;> omega)]
    rw [show kindOf M (g + 1) false = 0 by simp [kindOf, hm]]
    refine World.cell?_setCell_same _ ⟨a, k * 3, none⟩ _ (show _ = some (.int .i64 (kindOf M g true)) from ?_)
    rw [World.cell?_setCell_other _ _ _ _ (by simp <;> omega), World.cell?_setCell_other _ _ _ _ (by simp <;> omega), World.cell?_setCell_other _ _ _ _ (by simp <;> omega)]
    exact di
  · rw [hw']
    rw [World.cell?_setCell_other _ _ _ _ (by simp <;> omega), World.cell?_setCell_other _ _ _ _ (by simp <;> omega), World.cell?_setCell_other _ _ _ _ (by simp <;> omega), World.cell?_setCell_other _ _ _ _ (by simp <;> omega), World.cell?_setCell_other _ _ _ _ (by simp <;> omega)]
    exact u.one
  · rw [Int.toNat_natCast]
    exact nxt
  · refine h.th.keep (fun y hy t ht => ?_)
    obtain ⟨j, ej, _⟩ := h.wf.lt (x := y) hy
    have hne : j ≠ k := fun q => hno (by rw [← q, ← ej]; exact hy)
    subst ej
    rw [Int.toNat_natCast] at ht ⊢
    exact (other j hne).2.2.trans ht
/-- Behind Give, where the slot is spent. -/
theorem Tm.spent (h : Tm w p a K M ⟨G, L, fl⟩) (hG : G[k]? = some g) (hL : L[k]? = some true) (hm : ¬ g + 1 ≤ M) (u : Up w w2 p a k g) :
    Tm (turned w2 p a k 1 2 (L.count true : Int) ((K - fl.length - L.count true : Nat) : Int)) p a K M ⟨G.set k (g + 1), L.set k false, fl⟩ ∧
      But (Own p a) w (turned w2 p a k 1 2 (L.count true : Int) ((K - fl.length - L.count true : Nat) : Int)) := by
  have hpa := h.pa
  have hk : k < K := by rw [← h.wf.ll]; exact (List.getElem?_eq_some_iff.1 hL).1
  obtain ⟨t0, ct, hn0⟩ := h.ct k hk
  obtain ⟨ci, cg⟩ := h.ci k g true hG hL
  have hB : But (Own p a) w (turned w2 p a k 1 2 (L.count true : Int) ((K - fl.length - L.count true : Nat) : Int)) :=
    u.but.trans ((((But.refl _ w2).setCell (p := ⟨p, 4, none⟩) (fun _ => Or.inl rfl) _).setCell (p := ⟨a, k * 3, none⟩) (fun _ => Or.inr rfl) _).setCell (p := ⟨p, 5, none⟩) (fun _ => Or.inl rfl) _)
  refine ⟨?_, hB⟩
  have hT : Tw K M ⟨G.set k (g + 1), L.set k false, fl⟩ := by have := h.wf.gave hL hG; rwa [if_neg hm] at this
  have hcnt := count_off hL
  have hs : fl.length + L.count true ≤ K := h.wf.sum
  have hno : (k : Int) ∉ fl := fun q => by
    obtain ⟨j, ej, hj, _⟩ := h.wf.free _ q
    obtain rfl : j = k := by omega
    exact absurd (hL.symm.trans hj) (by simp)
  obtain ⟨w', hw'⟩ : ∃ w', w' = turned w2 p a k 1 2 (L.count true : Int) ((K - fl.length - L.count true : Nat) : Int) := ⟨_, rfl⟩
  rw [← hw'] at hB ⊢
  have c2 : w2.cell? ⟨p, 2, none⟩ = some (.int .i64 (hd K fl)) := (u.cell _ (by simp <;> omega)).trans h.c2
  have c3 : w2.cell? ⟨p, 3, none⟩ = some (.int .i64 (fl.length : Int)) := (u.cell _ (by simp <;> omega)).trans h.c3
  have c4 : w2.cell? ⟨p, 4, none⟩ = some (.int .i64 (L.count true : Int)) := (u.cell _ (by simp <;> omega)).trans h.c4
  have c5 := (u.cell ⟨p, 5, none⟩ (by simp <;> omega)).trans h.c5
  have di := (u.cell ⟨a, k * 3, none⟩ (by simp <;> omega)).trans ci
  have dt := (u.cell ⟨a, k * 3 + 2, none⟩ (by simp <;> omega)).trans ct
  unfold turned at hw'
  have other : ∀ j, j ≠ k → w'.cell? ⟨a, j * 3, none⟩ = w.cell? ⟨a, j * 3, none⟩ ∧ w'.cell? ⟨a, j * 3 + 1, none⟩ = w.cell? ⟨a, j * 3 + 1, none⟩ ∧ w'.cell? ⟨a, j * 3 + 2, none⟩ = w.cell? ⟨a, j * 3 + 2, none⟩ := fun j hj => by
    rw [hw']
    refine ⟨?_, ?_, ?_⟩ <;>
    · rw [World.cell?_setCell_other _ _ _ _ (by simp <;> omega), World.cell?_setCell_other _ _ _ _ (by simp <;> omega), World.cell?_setCell_other _ _ _ _ (by simp <;> omega)]
      exact u.cell _ (by simp <;> omega)
  refine h.remake hB (fun q => by rw [hw']; simpa using u.frozen q) hT ?_ ?_ ?_ ?_ ?_ ?_ k (g + 1) false t0 (get_set (g + 1) hG) (get_set false hL) ?_ ?_ ?_ hn0 (fun j hj => ⟨List.getElem?_set_ne (fun q => hj q.symm), List.getElem?_set_ne (fun q => hj q.symm), other j hj⟩) ?_
  · rw [hw']
    rw [World.cell?_setCell_other _ _ _ _ (by simp <;> omega), World.cell?_setCell_other _ _ _ _ (by simp <;> omega), World.cell?_setCell_other _ _ _ _ (by simp <;> omega)]
    exact u.cell _ (by simp <;> omega)
  · rw [hw']
    rw [World.cell?_setCell_other _ _ _ _ (by simp <;> omega), World.cell?_setCell_other _ _ _ _ (by simp <;> omega), World.cell?_setCell_other _ _ _ _ (by simp <;> omega)]
    exact u.cell _ (by simp <;> omega)
  · rw [hw']
    rw [World.cell?_setCell_other _ _ _ _ (by simp <;> omega), World.cell?_setCell_other _ _ _ _ (by simp <;> omega), World.cell?_setCell_other _ _ _ _ (by simp <;> omega)]
    exact c2
  · rw [hw']
    rw [World.cell?_setCell_other _ _ _ _ (by simp <;> omega), World.cell?_setCell_other _ _ _ _ (by simp <;> omega), World.cell?_setCell_other _ _ _ _ (by simp <;> omega)]
    exact c3
  · rw [hw']
    rw [World.cell?_setCell_other _ _ _ _ (by simp <;> omega), World.cell?_setCell_other _ _ _ _ (by simp <;> omega)]
    rw [World.cell?_setCell_same _ ⟨p, 3 + 1, none⟩ _ c4]
    show some (Value.int .i64 ((L.count true : Int) - 1)) = some (.int .i64 (((L.set k false).count true : Nat) : Int))
    rw [show (L.count true : Int) - 1 = ((L.set k false).count true : Int) by omega]
  · rw [hw']
    rw [World.cell?_setCell_same _ ⟨p, 3 + 2, none⟩ _ (show _ = some (.int .i64 ((K - fl.length - L.count true : Nat) : Int)) by
      rw [World.cell?_setCell_other _ _ _ _ (by simp <;> omega), World.cell?_setCell_other _ _ _ _ (by simp <;> omega)]
      exact c5)]
    show some (Value.int .i64 (((K - fl.length - L.count true : Nat) : Int) + 1)) = some (.int .i64 ((K - fl.length - (L.set k false).count true : Nat) : Int))
    rw [show ((K - fl.length - L.count true : Nat) : Int) + 1 = ((K - fl.length - (L.set k false).count true : Nat) : Int) by omega]
  · rw [hw']
    rw [World.cell?_setCell_other _ _ _ _ (by simp <;> omega)]
    rw [show kindOf M (g + 1) false = 2 by simp [kindOf, hm]]
    refine World.cell?_setCell_same _ ⟨a, k * 3, none⟩ _ (show _ = some (.int .i64 (kindOf M g true)) from ?_)
    rw [World.cell?_setCell_other _ _ _ _ (by simp <;> omega)]
    exact di
  · rw [hw']
    rw [World.cell?_setCell_other _ _ _ _ (by simp <;> omega), World.cell?_setCell_other _ _ _ _ (by simp <;> omega), World.cell?_setCell_other _ _ _ _ (by simp <;> omega)]
    exact u.one
  · rw [hw']
    rw [World.cell?_setCell_other _ _ _ _ (by simp <;> omega), World.cell?_setCell_other _ _ _ _ (by simp <;> omega), World.cell?_setCell_other _ _ _ _ (by simp <;> omega)]
    exact dt
  · refine h.th.keep (fun y hy t ht => ?_)
    obtain ⟨j, ej, _⟩ := h.wf.lt (x := y) hy
    have hne : j ≠ k := fun q => hno (by rw [← q, ← ej]; exact hy)
    subst ej
    rw [Int.toNat_natCast] at ht ⊢
    exact (other j hne).2.2.trans ht

theorem give_bad (h : Tm w p a K M T) (l1 : -9223372036854775808 ≤ n) (l2 : n ≤ 9223372036854775807) (h0 : (lookOut T n).2 ≠ 0) :
    Calls Tryd.prog 18 #[.pointer (some ⟨p, 0, none⟩), .int .i64 n] w (GiveEnds p a K M (T, (lookOut T n).2) w) := by
  have HL := Lib.hid (look_any h l1 l2)
  have H := Lib.hid h
  rw [look_bad0 h0] at HL
  have e1 : ((lookOut T n).2 != 0) = true := by simpa using h0
  generalize (lookOut T n).2 = y at HL e1
  clear h h0
  go_enter Tryd.func18, Tryd.ntmps18
  go_wp2_with fail
  refine HL.out.mono ?_
  rintro e w1 ⟨rfl, b1⟩
  have B1 := Lib.hid b1
  clear b1
  go_wp2
  go_ret
  exact ⟨rfl, H.out.below B1.out, Below.but B1.out _⟩
set_option maxHeartbeats 1000000 in
theorem give_free (h : Tm w p a K M ⟨G, L, fl⟩) (l1 : -9223372036854775808 ≤ n) (l2 : n ≤ 9223372036854775807) (hl : lookOut ⟨G, L, fl⟩ n = ((k : Int), 0)) (hG : G[k]? = some g) (hL : L[k]? = some true) (hm : g + 1 ≤ M) :
    Calls Tryd.prog 18 #[.pointer (some ⟨p, 0, none⟩), .int .i64 n] w (GiveEnds p a K M (⟨G.set k (g + 1), L.set k false, (k : Int) :: fl⟩, 0) w) := by
  have HL := look_any h l1 l2
  rw [hl] at HL
  have H := Lib.hid HL
  have HW := Lib.hid h
  have hk : k < K := by rw [← h.wf.ll]; exact (List.getElem?_eq_some_iff.1 hL).1
  have k2 := h.k2
  have m2 := h.m2
  have g1 := (h.wf.gen k g hG).1
  have hpa := h.pa
  have hap : ¬ a = p := fun q => hpa q.symm
  have hs : fl.length + L.count true ≤ K := h.wf.sum
  have hc1 := count_off hL
  have wg : IntKind.i64.wrap (g + 1) = g + 1 := IntWalk.i64_in _ (by omega)
  have dm : decide (M < g + 1) = false := decide_eq_false (by omega)
  clear h HL hl
  go_enter Tryd.func18, Tryd.ntmps18
  go_wp2_with fail
  refine H.out.mono ?_
  rintro e w1 ⟨rfl, b1⟩
  have h1 := HW.out.below b1
  have H1 := Lib.hid h1
  have B1 := Lib.hid b1
  have c0 := h1.c0
  have c1 := h1.c1
  have c2 : w1.cell? ⟨p, 2, none⟩ = some (.int .i64 (hd K fl)) := h1.c2
  have c3 : w1.cell? ⟨p, 3, none⟩ = some (.int .i64 (fl.length : Int)) := h1.c3
  have c4 : w1.cell? ⟨p, 4, none⟩ = some (.int .i64 (L.count true : Int)) := h1.c4
  obtain ⟨ci, cg⟩ := h1.ci k g true hG hL
  have ci' : w1.cell? ⟨a, k * 3, none⟩ = some (.int .i64 1) := ci
  obtain ⟨t0, ct, _⟩ := h1.ct k hk
  have f2 := h1.fp 2 (by omega)
  have f3 := h1.fp 3 (by omega)
  have f4 := h1.fp 4 (by omega)
  have g0 := h1.fo (k * 3) (by omega)
  have gg := h1.fo (k * 3 + 1) (by omega)
  have g2 := h1.fo (k * 3 + 2) (by omega)
  have HT := Lib.hid (fun d => h1.freed hG hL hm (Up.of cg d))
  have TU : Hid (∀ d, Calls Tryd.prog 27 #[.pointer (some ⟨p, 0, none⟩), .pointer (some ⟨a, k * 3, none⟩), .int .i64 0] ((((w1.setCell ⟨a, k * 3 + 1, none⟩ (.int .i64 (g + 1))).drewN d).setCell ⟨a, k * 3 + 2, none⟩ (tell (hd K fl))).setCell ⟨p, 2, none⟩ (.int .i64 (k : Int))) (TurnEnds p a k 1 0 (L.count true : Int) (fl.length : Int) ((((w1.setCell ⟨a, k * 3 + 1, none⟩ (.int .i64 (g + 1))).drewN d).setCell ⟨a, k * 3 + 2, none⟩ (tell (hd K fl))).setCell ⟨p, 2, none⟩ (.int .i64 (k : Int))))) :=
    Lib.hid (fun d => turn_10 hpa
      (by rw [World.cell?_setCell_other _ _ _ _ (by simp <;> omega), World.cell?_setCell_other _ _ _ _ (by simp <;> omega)]; exact ((Up.of (p := p) cg d).cell _ (by simp <;> omega)).trans c4)
      (by rw [World.cell?_setCell_other _ _ _ _ (by simp <;> omega), World.cell?_setCell_other _ _ _ _ (by simp <;> omega)]; exact ((Up.of (p := p) cg d).cell _ (by simp <;> omega)).trans c3)
      (by rw [World.cell?_setCell_other _ _ _ _ (by simp <;> omega), World.cell?_setCell_other _ _ _ _ (by simp <;> omega)]; exact ((Up.of (p := p) cg d).cell _ (by simp <;> omega)).trans ci')
      (by simpa using f4) (by simpa using f3) (by simpa using g0) (by omega) (by omega))
  generalize hd K fl = v at c2 HT TU
  have hst2 : ∀ (q : Addr) (fn : Fn) (s c : Array Value) (m : Mode) (u : World), (store q (.func fn s c) m).run Tryd.prog u = stored Tryd.prog u q (.func fn s c) m := fun q fn s c m u => run_store Tryd.prog u q _ m rfl
  have hmf : ∀ (fn : Fn) (first cap : Array Value) (w : World), (Instr.makeFunc fn first cap).run Tryd.prog w = .ok (.func fn first cap) w := fun _ _ _ _ => rfl
  clear h1 b1 H ci ci' c3 c4
  go_wp2_with fail
  go_quiet (fail)
  go_wp2_with fail
  refine (TU.out _).mono ?_
  rintro e w3 ⟨rfl, d, rfl⟩
  go_wp2
  go_ret
  exact ⟨rfl, (HT.out _).1.below (belowN (Below.refl _ _) d), ((Below.but B1.out (Own p a)).trans (HT.out _).2).drewN d⟩
set_option maxHeartbeats 1000000 in
theorem give_spent (h : Tm w p a K M ⟨G, L, fl⟩) (l1 : -9223372036854775808 ≤ n) (l2 : n ≤ 9223372036854775807) (hl : lookOut ⟨G, L, fl⟩ n = ((k : Int), 0)) (hG : G[k]? = some g) (hL : L[k]? = some true) (hm : ¬ g + 1 ≤ M) :
    Calls Tryd.prog 18 #[.pointer (some ⟨p, 0, none⟩), .int .i64 n] w (GiveEnds p a K M (⟨G.set k (g + 1), L.set k false, fl⟩, 0) w) := by
  have HL := look_any h l1 l2
  rw [hl] at HL
  have H := Lib.hid HL
  have HW := Lib.hid h
  have hk : k < K := by rw [← h.wf.ll]; exact (List.getElem?_eq_some_iff.1 hL).1
  have k2 := h.k2
  have m2 := h.m2
  have g1 := h.wf.gen k g hG
  have hpa := h.pa
  have hap : ¬ a = p := fun q => hpa q.symm
  have hs : fl.length + L.count true ≤ K := h.wf.sum
  have hc1 := count_off hL
  have wg : IntKind.i64.wrap (g + 1) = g + 1 := IntWalk.i64_in _ (by omega)
  have dm : decide (M < g + 1) = true := decide_eq_true (by omega)
  clear h HL hl
  go_enter Tryd.func18, Tryd.ntmps18
  go_wp2_with fail
  refine H.out.mono ?_
  rintro e w1 ⟨rfl, b1⟩
  have h1 := HW.out.below b1
  have H1 := Lib.hid h1
  have B1 := Lib.hid b1
  have c0 := h1.c0
  have c1 := h1.c1
  have c4 : w1.cell? ⟨p, 4, none⟩ = some (.int .i64 (L.count true : Int)) := h1.c4
  have c5 : w1.cell? ⟨p, 5, none⟩ = some (.int .i64 ((K - fl.length - L.count true : Nat) : Int)) := h1.c5
  obtain ⟨ci, cg⟩ := h1.ci k g true hG hL
  have ci' : w1.cell? ⟨a, k * 3, none⟩ = some (.int .i64 1) := ci
  have f4 := h1.fp 4 (by omega)
  have f5 := h1.fp 5 (by omega)
  have g0 := h1.fo (k * 3) (by omega)
  have gg := h1.fo (k * 3 + 1) (by omega)
  have HT := Lib.hid (fun d => h1.spent hG hL (by omega) (Up.of cg d))
  have TU : Hid (∀ d, Calls Tryd.prog 27 #[.pointer (some ⟨p, 0, none⟩), .pointer (some ⟨a, k * 3, none⟩), .int .i64 2] ((w1.setCell ⟨a, k * 3 + 1, none⟩ (.int .i64 (g + 1))).drewN d) (TurnEnds p a k 1 2 (L.count true : Int) ((K - fl.length - L.count true : Nat) : Int) ((w1.setCell ⟨a, k * 3 + 1, none⟩ (.int .i64 (g + 1))).drewN d))) :=
    Lib.hid (fun d => turn_12 hpa
      (((Up.of (p := p) cg d).cell _ (by simp <;> omega)).trans c4)
      (((Up.of (p := p) cg d).cell _ (by simp <;> omega)).trans c5)
      (((Up.of (p := p) cg d).cell _ (by simp <;> omega)).trans ci')
      (((Up.of (p := p) cg d).frozen _).trans f4) (((Up.of (p := p) cg d).frozen _).trans f5) (((Up.of (p := p) cg d).frozen _).trans g0) (by omega) (by omega))
  clear h1 b1 H ci ci' c4 c5
  go_wp2_with fail
  go_quiet (fail)
  go_wp2_with fail
  refine (TU.out _).mono ?_
  rintro e w3 ⟨rfl, d, rfl⟩
  go_wp2
  go_ret
  exact ⟨rfl, (HT.out _).1.below (belowN (Below.refl _ _) d), ((Below.but B1.out (Own p a)).trans (HT.out _).2).drewN d⟩
theorem give_any (h : Tm w p a K M T) (l1 : -9223372036854775808 ≤ n) (l2 : n ≤ 9223372036854775807) :
    Calls Tryd.prog 18 #[.pointer (some ⟨p, 0, none⟩), .int .i64 n] w (GiveEnds p a K M (giveOut M T n) w) := by
  by_cases h0 : (lookOut T n).2 = 0
  · obtain ⟨k, g, hk, _, e, _, _, _, hG, hL, hl⟩ := look_ok h.wf h0
    rw [give_ok_eq hl e hG]
    obtain ⟨G, L, fl⟩ := T
    by_cases hm : g + 1 ≤ M
    · rw [if_pos hm]
      exact give_free h l1 l2 hl hG hL hm
    · rw [if_neg hm]
      exact give_spent h l1 l2 hl hG hL hm
  · rw [give_bad_eq h0]
    exact give_bad h l1 l2 h0
end

/-! ### A table that is nil -/
theorem take_nil (w : World) : Calls Tryd.prog 17 #[.pointer none] w fun e w' => e = .returned (.tuple #[.int .i64 0, .int .i64 0, .int .i64 1]) ∧ w = w' := by
  go_enter Tryd.func17, Tryd.ntmps17
  go_wp2
  go_ret3
  exact ⟨rfl, rfl⟩
theorem look_nil (n : Int) (w : World) : Calls Tryd.prog 10 #[.pointer none, .int .i64 n] w fun e w' => e = .returned (.tuple #[.int .i64 0, .int .i64 1]) ∧ w = w' := by
  go_enter Tryd.func10, Tryd.ntmps10
  go_wp2
  go_ret2
  exact ⟨rfl, rfl⟩
theorem give_nil (n : Int) (w : World) : Calls Tryd.prog 18 #[.pointer none, .int .i64 n] w (R1 1 w) := by
  go_enter Tryd.func18, Tryd.ntmps18
  go_wp2_with fail
  refine (look_nil n w).mono ?_
  rintro e w' ⟨rfl, rfl⟩
  go_wp2
  go_ret
  exact ⟨rfl, rfl⟩
theorem count_nil (n : Int) (w : World) : Calls Tryd.prog 24 #[.pointer none, .int .i64 n] w (R1 0 w) := by
  go_enter Tryd.func24, Tryd.ntmps24
  go_wp2
  go_ret
  exact ⟨rfl, rfl⟩
theorem left_nil (w : World) : Calls Tryd.prog 12 #[.pointer none] w (R1 0 w) := by
  go_enter Tryd.func12, Tryd.ntmps12
  go_wp2_with fail
  refine (count_nil 0 w).mono ?_
  rintro e w' ⟨rfl, rfl⟩
  go_wp2
  go_ret
  exact ⟨rfl, rfl⟩
theorem live_nil (w : World) : Calls Tryd.prog 13 #[.pointer none] w (R1 0 w) := by
  go_enter Tryd.func13, Tryd.ntmps13
  go_wp2_with fail
  refine (count_nil 1 w).mono ?_
  rintro e w' ⟨rfl, rfl⟩
  go_wp2
  go_ret
  exact ⟨rfl, rfl⟩
end Go.Proofs.YtelhhhmmkdbagaaDoor
