import Derived.Test.YtfkegbipfekbdaaZPlTake
/-
  Package pool: Give, met by a contract; Take and Give of any argument; and of a pool that is nil.
-/
namespace Go.Proofs.Ytfkegbipfekbdaa.Pl
open Go.ChangeShapes Go.WideShapes Go.ChangeAt Go.RowKit
set_option maxRecDepth 100000

section
variable {w : World} {p a K : Nat} {O fl r : List Int}
/-- Behind Give: owner, next, first, and the count are stored. -/
theorem Pm.gave {k : Nat} {x : Int} {t : Value} (h : Pm w p a K O fl) (hk : k < K) (hx : O[k]? = some x) (hn : x ≠ -1) (ht : Tells w p a t (hd K fl)) :
    Pm ((((w.setCell ⟨a, k * 2, none⟩ (.int .i64 (-1))).setCell ⟨a, k * 2 + 1, none⟩ t).setCell ⟨p, 1, none⟩ (.int .i64 (k : Int))).setCell ⟨p, 2, none⟩ (.int .i64 ((fl.length + 1 : Nat) : Int))) p a K (O.set k (-1)) ((k : Int) :: fl) := by
  have hpa := h.pa
  have hO := h.wf.len
  have other : ∀ (q : Addr) (x : Option Value), (⟨a, k * 2, none⟩ : Addr) ≠ q → (⟨a, k * 2 + 1, none⟩ : Addr) ≠ q → (⟨p, 1, none⟩ : Addr) ≠ q → (⟨p, 2, none⟩ : Addr) ≠ q → w.cell? q = x →
      ((((w.setCell ⟨a, k * 2, none⟩ (.int .i64 (-1))).setCell ⟨a, k * 2 + 1, none⟩ t).setCell ⟨p, 1, none⟩ (.int .i64 (k : Int))).setCell ⟨p, 2, none⟩ (.int .i64 ((fl.length + 1 : Nat) : Int))).cell? q = x := by
    intro q x n1 n2 n3 n4 hx
    rw [World.cell?_setCell_other _ _ _ _ n4, World.cell?_setCell_other _ _ _ _ n3, World.cell?_setCell_other _ _ _ _ n2, World.cell?_setCell_other _ _ _ _ n1]
    exact hx
  obtain ⟨t0, ht0⟩ := h.ct k hk
  have next : ((((w.setCell ⟨a, k * 2, none⟩ (.int .i64 (-1))).setCell ⟨a, k * 2 + 1, none⟩ t).setCell ⟨p, 1, none⟩ (.int .i64 (k : Int))).setCell ⟨p, 2, none⟩ (.int .i64 ((fl.length + 1 : Nat) : Int))).cell? ⟨a, k * 2 + 1, none⟩ = some t := by
    rw [World.cell?_setCell_other _ _ _ _ (by simp <;> omega), World.cell?_setCell_other _ _ _ _ (by simp <;> omega)]
    refine World.cell?_setCell_same _ _ _ (show _ = some t0 from ?_)
    rw [World.cell?_setCell_other _ _ _ _ (by simp <;> omega)]
    exact ht0
  have far : ∀ b j x, b ≠ p → b ≠ a → b < w.heap.size → w.cell? ⟨b, j, none⟩ = x → ((((w.setCell ⟨a, k * 2, none⟩ (.int .i64 (-1))).setCell ⟨a, k * 2 + 1, none⟩ t).setCell ⟨p, 1, none⟩ (.int .i64 (k : Int))).setCell ⟨p, 2, none⟩ (.int .i64 ((fl.length + 1 : Nat) : Int))).cell? ⟨b, j, none⟩ = x :=
    fun b j x n1 n2 _ hx => other _ _ (by simp <;> omega) (by simp <;> omega) (by simp <;> omega) (by simp <;> omega) hx
  have hw := h.wf.give hx hn
  obtain ⟨hno, _⟩ := List.nodup_cons.1 hw.once
  refine ⟨hw, other _ _ (by simp <;> omega) (by simp <;> omega) (by simp <;> omega) (by simp <;> omega) h.c0, ?_, ?_, by simpa using h.f1, by simpa using h.f2, fun j x hj => ?_, fun j hj => ?_, fun q hq => by simpa using h.fo q hq, ⟨⟨t, ?_, ht.keep far⟩, ?_⟩, h.pa, h.k1, h.k2⟩
  · rw [World.cell?_setCell_other _ _ _ _ (by simp <;> omega)]
    refine World.cell?_setCell_same _ _ _ (show _ = some (.int .i64 (hd K fl)) from ?_)
    rw [World.cell?_setCell_other _ _ _ _ (by simp <;> omega), World.cell?_setCell_other _ _ _ _ (by simp <;> omega)]
    exact h.c1
  · refine World.cell?_setCell_same _ _ _ (show _ = some (.int .i64 (fl.length : Int)) from ?_)
    rw [World.cell?_setCell_other _ _ _ _ (by simp <;> omega), World.cell?_setCell_other _ _ _ _ (by simp <;> omega), World.cell?_setCell_other _ _ _ _ (by simp <;> omega)]
    exact h.c2
  · by_cases z : k = j
    · subst z
      rw [List.getElem?_set_self (by omega)] at hj
      cases hj
      rw [World.cell?_setCell_other _ _ _ _ (by simp <;> omega), World.cell?_setCell_other _ _ _ _ (by simp <;> omega), World.cell?_setCell_other _ _ _ _ (by simp <;> omega)]
      exact World.cell?_setCell_same _ _ _ (h.co k _ hx)
    · rw [List.getElem?_set_ne z] at hj
      exact other _ _ (by simp <;> omega) (by simp <;> omega) (by simp <;> omega) (by simp <;> omega) (h.co j x hj)
  · by_cases z : j = k
    · subst z
      exact ⟨t, next⟩
    · obtain ⟨t', ht'⟩ := h.ct j hj
      exact ⟨t', other _ _ (by simp <;> omega) (by simp <;> omega) (by simp <;> omega) (by simp <;> omega) ht'⟩
  · rw [Int.toNat_natCast]
    exact next
  · refine h.th.keep (fun y hy t' ht' => ?_) far
    obtain ⟨j, ej, _⟩ := h.wf.lt hy
    have hne : j ≠ k := fun q => hno (by rw [← q, ← ej]; exact hy)
    subst ej
    rw [Int.toNat_natCast] at ht' ⊢
    exact other _ _ (by simp <;> omega) (by simp <;> omega) (by simp <;> omega) (by simp <;> omega) ht'

theorem give_arg (h : Pm w p a K O fl) (i : Int) (hi : inB K i = false) :
    Calls Try.prog 71 #[.pointer (some ⟨p, 0, none⟩), .int .i64 i] w (GiveEnds p a K (O, fl, 1) w) := by
  have H := Lib.hid h
  have HL := Lib.hid (has_any h i)
  rw [hi] at HL
  clear h hi
  go_enter Try.func71, Try.ntmps71
  go_wp2_with fail
  refine HL.out.mono ?_
  rintro e w' ⟨rfl, rfl⟩
  go_wp2
  go_ret
  exact ⟨rfl, H.out, But.refl _ _⟩
theorem give_none (h : Pm w p a K O fl) (k : Nat) (hk : k < K) (hx : O[k]? = some (-1)) :
    Calls Try.prog 71 #[.pointer (some ⟨p, 0, none⟩), .int .i64 (k : Int)] w (GiveEnds p a K (O, fl, 9) w) := by
  have H := Lib.hid h
  have HL := Lib.hid (has_any h k)
  rw [inB_of hk] at HL
  have c0 := h.c0
  have c3 := h.co k _ hx
  have k2 := h.k2
  clear h hx
  go_enter Try.func71, Try.ntmps71
  go_wp2_with fail
  refine HL.out.mono ?_
  rintro e w' ⟨rfl, rfl⟩
  go_wp2
  go_ret
  exact ⟨rfl, H.out, But.refl _ _⟩
set_option maxHeartbeats 1000000 in
theorem give_ok (h : Pm w p a K O fl) (k : Nat) (hk : k < K) {x : Int} (hx : O[k]? = some x) (hn : x ≠ -1) :
    Calls Try.prog 71 #[.pointer (some ⟨p, 0, none⟩), .int .i64 (k : Int)] w (GiveEnds p a K (O.set k (-1), (k : Int) :: fl, 0) w) := by
  have hb := below1 w (.cells #[.int .i64 (hd K fl)] 3)
  have tel : Tells (w.alloc (.cells #[.int .i64 (hd K fl)] 3)) p a (.func (.func 93) #[] #[.pointer (some ⟨w.heap.size, 0, none⟩)]) (hd K fl) :=
    Or.inr ⟨w.heap.size, rfl, by go_simp, by go_simp, by have := h.psize; omega, by have := h.asize; omega⟩
  have H := Lib.hid ((h.below hb).gave hk hx hn tel)
  have HL := Lib.hid (has_any h k)
  rw [inB_of hk] at HL
  have c0 := h.c0
  have c1 := h.c1
  have c2 := h.c2
  have f1 := h.f1
  have f2 := h.f2
  have k2 := h.k2
  have c3 := h.co k x hx
  obtain ⟨t0, c4⟩ := h.ct k hk
  have g0 := h.fo (k * 2) (by omega)
  have g1 := h.fo (k * 2 + 1) (by omega)
  have hpa := h.pa
  have hap : ¬ a = p := fun q => hpa q.symm
  have hsp : ¬ w.heap.size = p := by have := h.psize; omega
  have hps := h.psize
  have has := h.asize
  have hsa : ¬ w.heap.size = a := by have := h.asize; omega
  have hfew := h.wf.few
  obtain ⟨n, en⟩ : ∃ n, n = fl.length := ⟨_, rfl⟩
  rw [← en] at c2 hfew H
  have e1 : (x == -1) = false := beq_eq_false_iff_ne.2 hn
  have hw : IntKind.i64.wrap ((n : Int) + 1) = ((n + 1 : Nat) : Int) := by rw [show (n : Int) + 1 = ((n + 1 : Nat) : Int) by omega]; exact IntWalk.i64_in _ (by omega)
  generalize hd K fl = v at H c1
  have hst : ∀ (q : Addr) (fn : Fn) (s c : Array Value) (m : Mode) (u : World), (store q (.func fn s c) m).run Try.prog u = stored Try.prog u q (.func fn s c) m := fun q fn s c m u => run_store Try.prog u q _ m rfl
  have hmf : ∀ (fn : Fn) (first cap : Array Value) (w : World), (Instr.makeFunc fn first cap).run Try.prog w = .ok (.func fn first cap) w := fun _ _ _ _ => rfl
  have HB : Hid (∀ u, But (Own p a) w (((((w.alloc (.cells #[.int .i64 v] 3)).setCell ⟨a, k * 2, none⟩ (.int .i64 (-1))).setCell ⟨a, k * 2 + 1, none⟩ u).setCell ⟨p, 1, none⟩ (.int .i64 (k : Int))).setCell ⟨p, 2, none⟩ (.int .i64 ((n + 1 : Nat) : Int)))) :=
    Lib.hid (fun u => (((((But.refl _ w).alloc _).setCell (p := ⟨a, k * 2, none⟩) (fun _ => Or.inr rfl) _).setCell (p := ⟨a, k * 2 + 1, none⟩) (fun _ => Or.inr rfl) u).setCell (p := ⟨p, 1, none⟩) (fun _ => Or.inl rfl) _).setCell (p := ⟨p, 2, none⟩) (fun _ => Or.inl rfl) _)
  clear h tel hb en hx
  go_enter Try.func71, Try.ntmps71
  go_wp2_with fail
  refine HL.out.mono ?_
  rintro e w' ⟨rfl, rfl⟩
  go_wp2
  go_ret
  refine ⟨rfl, ?_, ?_⟩
  · have := H.out
    rw [World.setCell_alloc_past (hn := has), World.setCell_alloc_past (hn := by simpa using has), World.setCell_alloc_past (hn := by simpa using hps), World.setCell_alloc_past (hn := by simpa using hps)] at this
    exact this
  · have := HB.out (.func (.func 93) #[] #[.pointer (some ⟨w.heap.size, 0, none⟩)])
    rw [World.setCell_alloc_past (hn := has), World.setCell_alloc_past (hn := by simpa using has), World.setCell_alloc_past (hn := by simpa using hps), World.setCell_alloc_past (hn := by simpa using hps)] at this
    exact this

theorem take_any (h : Pm w p a K O fl) (o : Int) (ho : Fit o) :
    Calls Try.prog 85 #[.pointer (some ⟨p, 0, none⟩), .int .i64 o] w (TakeEnds p a K (takeOut O fl o) w) := by
  unfold takeOut
  by_cases h0 : o < 0
  · rw [if_pos h0]
    exact take_arg h o h0
  · rw [if_neg h0]
    cases fl with
    | nil => exact take_none h o (by omega)
    | cons x r =>
      obtain ⟨k, rfl, hk⟩ := h.wf.lt (x := x) (by simp)
      exact take_ok h o (by omega) ho
theorem give_any (h : Pm w p a K O fl) (i : Int) :
    Calls Try.prog 71 #[.pointer (some ⟨p, 0, none⟩), .int .i64 i] w (GiveEnds p a K (giveOut O fl i) w) := by
  unfold giveOut
  rw [h.wf.len]
  cases hq : inB K i with
  | false =>
    rw [if_neg (by simp)]
    exact give_arg h i hq
  | true =>
    rw [if_pos rfl]
    obtain ⟨k, rfl, hk⟩ := inB_nat hq
    rw [Int.toNat_natCast]
    obtain ⟨x, hx, _⟩ := h.wf.ofK hk
    by_cases z : x = -1
    · subst z
      rw [if_pos hx]
      exact give_none h k hk hx
    · rw [if_neg (fun q => z (by rw [hx] at q; exact Option.some.inj q))]
      exact give_ok h k hk hx z
end

/-! ### A pool that is nil -/
theorem take_nil (o : Int) (w : World) : Calls Try.prog 85 #[.pointer none, .int .i64 o] w fun e w' => e = .returned (.tuple #[.int .i64 0, .int .i64 1]) ∧ w = w' := by
  go_enter Try.func85, Try.ntmps85
  go_wp2
  go_ret2
  exact ⟨rfl, rfl⟩
theorem has_nil (i : Int) (w : World) : Calls Try.prog 92 #[.pointer none, .int .i64 i] w (B1 false w) := by
  go_enter Try.func92, Try.ntmps92
  go_wp2
  go_ret
  exact ⟨rfl, rfl⟩
theorem give_nil (i : Int) (w : World) : Calls Try.prog 71 #[.pointer none, .int .i64 i] w (R1 1 w) := by
  go_enter Try.func71, Try.ntmps71
  go_wp2_with fail
  refine (has_nil i w).mono ?_
  rintro e w' ⟨rfl, rfl⟩
  go_wp2
  go_ret
  exact ⟨rfl, rfl⟩
theorem free_nil (w : World) : Calls Try.prog 32 #[.pointer none] w (R1 0 w) := by
  go_enter Try.func32, Try.ntmps32
  go_wp2
  go_ret
  exact ⟨rfl, rfl⟩
theorem held_nil (w : World) : Calls Try.prog 29 #[.pointer none] w (R1 0 w) := by
  go_enter Try.func29, Try.ntmps29
  go_wp2
  go_ret
  exact ⟨rfl, rfl⟩
end Go.Proofs.Ytfkegbipfekbdaa.Pl
