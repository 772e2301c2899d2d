/-
  Package proxy: New, met by contracts.
-/
import Derived.Test.YtelhhhmmkdbagaaDoorProxyGive
import Derived.OwnWalk
import Derived.Laws.OwnMore
namespace Go.Proofs.YtelhhhmmkdbagaaDoor
open Go.ChangeShapes Go.WideShapes Go.ChangeAt Go.RowKit

theorem new_bad (n m : Int) (w : World) (h : ¬ (1 ≤ n ∧ n ≤ 4096 ∧ 1 ≤ m ∧ m ≤ 1023)) :
    Calls Tryd.prog 15 #[.int .i64 n, .int .i64 m] w fun e w' => e = .returned (.tuple #[.pointer none, .int .i64 1]) ∧ w = w' := by
  by_cases h1 : n < 1
  · have d1 : decide (n < 1) = true := by simpa using h1
    clear h
    go_enter Tryd.func15, Tryd.ntmps15
    go_wp2
    go_ret2
    exact ⟨rfl, rfl⟩
  have d1 : decide (n < 1) = false := by simpa using h1
  by_cases h2 : 4096 < n
  · have d2 : decide (4096 < n) = true := by simpa using h2
    clear h
    go_enter Tryd.func15, Tryd.ntmps15
    go_wp2
    go_ret2
    exact ⟨rfl, rfl⟩
  have d2 : decide (4096 < n) = false := by simpa using h2
  by_cases h3 : m < 1
  · have d3 : decide (m < 1) = true := by simpa using h3
    clear h
    go_enter Tryd.func15, Tryd.ntmps15
    go_wp2
    go_ret2
    exact ⟨rfl, rfl⟩
  have d3 : decide (m < 1) = false := by simpa using h3
  have d4 : decide (1023 < m) = true := by simp; omega
  clear h
  go_enter Tryd.func15, Tryd.ntmps15
  go_wp2
  go_ret2
  exact ⟨rfl, rfl⟩

/-- A block of slots that nothing was laid into. -/
def noSlots (n : Nat) : Obj := .cells (madeCells #[.int .i64 0, .int .i64 0, .nilFunc] (n * 3)) 64
theorem make_slots (n : Nat) (hn : n ≤ 4096) (v : World) :
    (Instr.makeSlice 58 (.int .i64 (n : Int)) (.int .i64 (n : Int))).run Tryd.prog v = .ok (.slice (some ⟨v.heap.size, 0, none⟩) n n) (v.alloc (noSlots n)) := by
  obtain ⟨i, hi, hz, hs, hb⟩ : ∃ i, Tryd.prog.info? 64 = some i ∧ i.zero = some (.agg #[.int .i64 0, .int .i64 0, .nilFunc]) ∧ i.size = 3 ∧ i.bytes = 24 := ⟨_, rfl, by kernel_rfl, by kernel_rfl, by kernel_rfl⟩
  rw [run_make v 58 64 i _ Tryd.underlying58 hi hz .i64 .i64 n n (by omega) (by omega) (by rw [hb]; omega) (by omega)]
  simp [hs, noSlots, Value.cells]
theorem noSlots_cell (w : World) (n q : Nat) (hq : q < n) : (w.alloc (noSlots n)).cell? ⟨w.heap.size, q * 3, none⟩ = some (.int .i64 0) ∧ (w.alloc (noSlots n)).cell? ⟨w.heap.size, q * 3 + 1, none⟩ = some (.int .i64 0) ∧ (w.alloc (noSlots n)).cell? ⟨w.heap.size, q * 3 + 2, none⟩ = some .nilFunc := by
  have hh : (w.alloc (noSlots n)).heap[w.heap.size]? = some (noSlots n) := by simp only [World.alloc, Array.getElem?_push, if_true]
  have e0 : q * 3 % 3 = 0 := by omega
  have e1 : (q * 3 + 1) % 3 = 1 := by omega
  have e2 : (q * 3 + 2) % 3 = 2 := by omega
  refine ⟨?_, ?_, ?_⟩
  · rw [World.cell?, hh]
    have h1 : q * 3 < n * 3 := by omega
    simp [noSlots, madeCells, h1, e0]
  · rw [World.cell?, hh]
    have h1 : q * 3 + 1 < n * 3 := by omega
    simp [noSlots, madeCells, h1, e1]
  · rw [World.cell?, hh]
    have h1 : q * 3 + 2 < n * 3 := by omega
    simp [noSlots, madeCells, h1, e2]
theorem noSlots_free (w : World) (n q : Nat) : (w.alloc (noSlots n)).frozen? ⟨w.heap.size, q, none⟩ = false := by
  have hh : (w.alloc (noSlots n)).heap[w.heap.size]? = some (noSlots n) := by simp only [World.alloc, Array.getElem?_push, if_true]
  rw [World.frozen?, hh]
  simp [noSlots]

/-- k of K slots are laid. -/
structure Nt (w : World) (p a K : Nat) (M : Int) (k : Nat) : Prop where
  bd : Bd w
  c0 : w.cell? ⟨p, 0, none⟩ = some (.slice (some ⟨a, 0, none⟩) K K)
  c1 : w.cell? ⟨p, 1, none⟩ = some (.int .i64 M)
  c2 : w.cell? ⟨p, 2, none⟩ = some (.int .i64 0)
  c3 : w.cell? ⟨p, 3, none⟩ = some (.int .i64 0)
  c4 : w.cell? ⟨p, 4, none⟩ = some (.int .i64 0)
  c5 : w.cell? ⟨p, 5, none⟩ = some (.int .i64 0)
  fp : ∀ q, q < 6 → w.frozen? ⟨p, q, none⟩ = false
  lo : ∀ j, j < k → w.cell? ⟨a, j * 3, none⟩ = some (.int .i64 0) ∧ w.cell? ⟨a, j * 3 + 1, none⟩ = some (.int .i64 1) ∧ w.cell? ⟨a, j * 3 + 2, none⟩ = some (tell ((j + 1 : Nat) : Int))
  hi : ∀ j, k ≤ j → j < K → w.cell? ⟨a, j * 3, none⟩ = some (.int .i64 0) ∧ w.cell? ⟨a, j * 3 + 1, none⟩ = some (.int .i64 0) ∧ w.cell? ⟨a, j * 3 + 2, none⟩ = some .nilFunc
  fo : ∀ q, q < K * 3 → w.frozen? ⟨a, q, none⟩ = false
  pa : p ≠ a
/-- A slot is laid. -/
def lay3 (w : World) (a k : Nat) : World :=
  ((w.setCell ⟨a, k * 3, none⟩ (.int .i64 0)).setCell ⟨a, k * 3 + 1, none⟩ (.int .i64 1)).setCell ⟨a, k * 3 + 2, none⟩ (tell ((k + 1 : Nat) : Int))
def tbox (a K : Nat) (M : Int) : Obj := .cells #[.slice (some ⟨a, 0, none⟩) K K, .int .i64 M, .int .i64 0, .int .i64 0, .int .i64 0, .int .i64 0] 61
section
variable {w w0 : World} {p a K k : Nat} {M : Int}
theorem Nt.start (w : World) (K : Nat) (M : Int) (hb0 : Bd w) : Nt ((w.alloc (noSlots K)).alloc (.cells #[.slice (some ⟨w.heap.size, 0, none⟩) K K, .int .i64 M, .int .i64 0, .int .i64 0, .int .i64 0, .int .i64 0] 61)) (w.heap.size + 1) w.heap.size K M 0 := by
  have hb := below1 (w.alloc (noSlots K)) (.cells #[.slice (some ⟨w.heap.size, 0, none⟩) K K, .int .i64 M, .int .i64 0, .int .i64 0, .int .i64 0, .int .i64 0] 61)
  have hs : (w.alloc (noSlots K)).heap.size = w.heap.size + 1 := by simp
  refine ⟨hb0.below hb0.pos (below2 w _ _), by go_simp, by go_simp, by go_simp, by go_simp, by go_simp, by go_simp, fun q hq => ?_, fun j hj => absurd hj (by omega), fun j _ hj => ?_, fun q _ => ?_, by omega⟩
  · match q, hq with
    | 0, _ | 1, _ | 2, _ | 3, _ | 4, _ | 5, _ => go_simp
  · obtain ⟨e0, e1, e2⟩ := noSlots_cell w K j hj
    exact ⟨(hb.cell (p := ⟨w.heap.size, j * 3, none⟩) (by rw [hs]; show w.heap.size < _; omega)).trans e0, (hb.cell (p := ⟨w.heap.size, j * 3 + 1, none⟩) (by rw [hs]; show w.heap.size < _; omega)).trans e1, (hb.cell (p := ⟨w.heap.size, j * 3 + 2, none⟩) (by rw [hs]; show w.heap.size < _; omega)).trans e2⟩
  · exact ((Below.but hb fun _ => False).frozen (p := ⟨w.heap.size, q, none⟩) (by rw [hs]; show w.heap.size < _; omega) id).trans (noSlots_free w K q)
theorem lay3_but (w : World) (a k : Nat) : But (· = a) w (lay3 w a k) :=
  (((But.refl (· = a) w).setCell (p := ⟨a, k * 3, none⟩) (fun _ => rfl) _).setCell (p := ⟨a, k * 3 + 1, none⟩) (fun _ => rfl) _).setCell (p := ⟨a, k * 3 + 2, none⟩) (fun _ => rfl) _
theorem Nt.next (h : Nt w p a K M k) (hk : k < K) (ha : a ≠ 0) : Nt (lay3 w a k) p a K M (k + 1) := by
  have hpa := h.pa
  have other : ∀ (q : Addr) (x : Value), (⟨a, k * 3, none⟩ : Addr) ≠ q → (⟨a, k * 3 + 1, none⟩ : Addr) ≠ q → (⟨a, k * 3 + 2, none⟩ : Addr) ≠ q → w.cell? q = some x → (lay3 w a k).cell? q = some x := by
    intro q x n1 n2 n3 hx
    unfold lay3
    rw [World.cell?_setCell_other _ _ _ _ n3, World.cell?_setCell_other _ _ _ _ n2, World.cell?_setCell_other _ _ _ _ n1]
    exact hx
  have hf : ∀ q, (lay3 w a k).frozen? q = w.frozen? q := fun q => by unfold lay3; simp
  obtain ⟨e0, e1, e2⟩ := h.hi k (Nat.le_refl _) hk
  refine ⟨h.bd.but (lay3_but w a k) (fun e => ha e.symm), other _ _ (by simp <;> omega) (by simp <;> omega) (by simp <;> omega) h.c0, other _ _ (by simp <;> omega) (by simp <;> omega) (by simp <;> omega) h.c1, other _ _ (by simp <;> omega) (by simp <;> omega) (by simp <;> omega) h.c2,
    other _ _ (by simp <;> omega) (by simp <;> omega) (by simp <;> omega) h.c3, other _ _ (by simp <;> omega) (by simp <;> omega) (by simp <;> omega) h.c4, other _ _ (by simp <;> omega) (by simp <;> omega) (by simp <;> omega) h.c5,
    fun q hq => (hf _).trans (h.fp q hq), fun j hj => ?_, fun j h1 h2 => ?_, fun q hq => (hf _).trans (h.fo q hq), hpa⟩
  · by_cases z : j = k
    · subst z
      unfold lay3
      refine ⟨?_, ?_, ?_⟩
      · rw [World.cell?_setCell_other _ _ _ _ (by simp <;> omega), World.cell?_setCell_other _ _ _ _ (by simp <;> omega)]
        exact World.cell?_setCell_same w _ _ e0
      · rw [World.cell?_setCell_other _ _ _ _ (by simp <;> omega)]
        refine World.cell?_setCell_same _ _ _ (show _ = some (.int .i64 0) from ?_)
        rw [World.cell?_setCell_other _ _ _ _ (by simp <;> omega)]
        exact e1
      · refine World.cell?_setCell_same _ _ _ (show _ = some .nilFunc from ?_)
        rw [World.cell?_setCell_other _ _ _ _ (by simp <;> omega), World.cell?_setCell_other _ _ _ _ (by simp <;> omega)]
        exact e2
    · obtain ⟨l0, l1, l2⟩ := h.lo j (by omega)
      exact ⟨other _ _ (by simp <;> omega) (by simp <;> omega) (by simp <;> omega) l0, other _ _ (by simp <;> omega) (by simp <;> omega) (by simp <;> omega) l1, other _ _ (by simp <;> omega) (by simp <;> omega) (by simp <;> omega) l2⟩
  · obtain ⟨l0, l1, l2⟩ := h.hi j (by omega) h2
    exact ⟨other _ _ (by simp <;> omega) (by simp <;> omega) (by simp <;> omega) l0, other _ _ (by simp <;> omega) (by simp <;> omega) (by simp <;> omega) l1, other _ _ (by simp <;> omega) (by simp <;> omega) (by simp <;> omega) l2⟩
theorem turns_drop {j : Nat} (hj : j < K) : (turns K).drop j = (j : Int) :: (turns K).drop (j + 1) := by
  have hl : j < (turns K).length := by rw [turns_len]; exact hj
  rw [List.drop_eq_getElem_cons hl]
  have := turns_at hj
  rw [List.getElem?_eq_getElem hl] at this
  rw [Option.some.inj this]
theorem turns_hd {j : Nat} (hj : j ≤ K) : hd K ((turns K).drop j) = (j : Int) := by
  by_cases h : j < K
  · rw [turns_drop h]; rfl
  · rw [List.drop_of_length_le (by rw [turns_len]; omega)]
    have : j = K := by omega
    rw [this]; rfl
theorem Nt.thr (h : Nt w p a K M K) : ∀ n j, j + n = K → Thr w a K ((turns K).drop j) := by
  intro n
  induction n with
  | zero =>
    intro j hj
    rw [List.drop_of_length_le (by rw [turns_len]; omega)]
    trivial
  | succ n ih =>
    intro j hj
    rw [turns_drop (by omega)]
    refine ⟨?_, ih (j + 1) (by omega)⟩
    rw [Int.toNat_natCast, turns_hd (by omega)]
    exact (h.lo j (by omega)).2.2
theorem Nt.done (h : Nt w p a K M K) (h1 : 1 ≤ K) (h2 : K ≤ 4096) (m1 : 1 ≤ M) (m2 : M ≤ 1023) (p0 : p ≠ 0) (a0 : a ≠ 0) : Tm (w.setCell ⟨p, 3, none⟩ (.int .i64 (K : Int))) p a K M (fresh K) := by
  have hpa := h.pa
  have other : ∀ (q : Addr) (x : Value), (⟨p, 3, none⟩ : Addr) ≠ q → w.cell? q = some x → (w.setCell ⟨p, 3, none⟩ (.int .i64 (K : Int))).cell? q = some x := fun q x n hx => by
    rw [World.cell?_setCell_other _ _ _ _ n]; exact hx
  have hcn : (List.replicate K false).count true = 0 := by rw [List.count_replicate]; simp
  refine ⟨Tw.new K m1, h.bd.but ((But.refl (· = p) w).setCell (p := ⟨p, 3, none⟩) (fun _ => rfl) _) (fun e => p0 e.symm), other _ _ (by simp) h.c0, other _ _ (by simp) h.c1, ?_, ?_, ?_, ?_, fun q hq => by simpa using h.fp q hq, fun j g b hg hb => ?_, fun j hj => ⟨_, other _ _ (by simp <;> omega) (h.lo j hj).2.2, Or.inr ⟨_, rfl⟩⟩, fun q hq => by simpa using h.fo q hq, ?_, hpa, p0, a0, h1, h2, m1, m2⟩
  · have := turns_hd (K := K) (j := 0) (by omega)
    rw [List.drop_zero] at this
    show _ = some (Value.int .i64 (hd K (turns K)))
    rw [this]
    exact other _ _ (by simp) h.c2
  · show _ = some (Value.int .i64 ((turns K).length : Int))
    rw [turns_len]
    exact World.cell?_setCell_same w _ _ h.c3
  · show _ = some (Value.int .i64 ((List.replicate K false).count true : Int))
    rw [hcn]
    exact other _ _ (by simp) h.c4
  · show _ = some (Value.int .i64 ((K - (turns K).length - (List.replicate K false).count true : Nat) : Int))
    rw [hcn, turns_len, Nat.sub_self, Nat.zero_sub]
    exact other _ _ (by simp) h.c5
  · obtain ⟨hj, rfl⟩ := rep_at hg
    obtain ⟨_, rfl⟩ := rep_at hb
    rw [show kindOf M 1 false = 0 by simp [kindOf, m1]]
    exact ⟨other _ _ (by simp <;> omega) (h.lo j hj).1, other _ _ (by simp <;> omega) (h.lo j hj).2.1⟩
  · have := h.thr K 0 (by omega)
    rw [List.drop_zero] at this
    exact this.keep (fun x _ t ht => other _ _ (by simp <;> omega) ht)
end

set_option maxHeartbeats 1000000 in
theorem new_ok (K : Nat) (M : Int) (w : World) (h1 : 1 ≤ K) (h2 : K ≤ 4096) (m1 : 1 ≤ M) (m2 : M ≤ 1023) (hb : Bd w) :
    Calls Tryd.prog 15 #[.int .i64 (K : Int), .int .i64 M] w fun e w' => ∃ p a, e = .returned (.tuple #[.pointer (some ⟨p, 0, none⟩), .int .i64 0]) ∧ Tm w' p a K M (fresh K) ∧ Below w.heap.size w w' ∧ w.heap.size ≤ p ∧ w.heap.size ≤ a := by
  have d1 : decide ((K : Int) < 1) = false := by simp; omega
  have d2 : decide ((4096 : Int) < (K : Int)) = false := by simp; omega
  have d3 : decide (M < 1) = false := by simp; omega
  have d4 : decide ((1023 : Int) < M) = false := by simp; omega
  have hlen := make_slots K h2
  have N0 := Lib.hid (Nt.start w K M hb)
  have B0 : Hid (Below w.heap.size w ((w.alloc (noSlots K)).alloc (.cells #[.slice (some ⟨w.heap.size, 0, none⟩) K K, .int .i64 M, .int .i64 0, .int .i64 0, .int .i64 0, .int .i64 0] 61))) := Lib.hid (below2 w _ _)
  have hst : ∀ (q : Addr) (fn : Fn) (s c : Array Value) (m : Mode) (u : World), (store q (.func fn s c) m).run Tryd.prog u = stored Tryd.prog u q (.func fn s c) m := fun q fn s c m u => run_store Tryd.prog u q _ m rfl
  have hmf : ∀ (fn : Fn) (first cap : Array Value) (w : World), (Instr.makeFunc fn first cap).run Tryd.prog w = .ok (.func fn first cap) w := fun _ _ _ _ => rfl
  have hpos := hb.pos
  obtain ⟨p, hp⟩ : ∃ p, p = w.heap.size + 1 := ⟨_, rfl⟩
  obtain ⟨a, ha⟩ : ∃ a, a = w.heap.size := ⟨_, rfl⟩
  have HP : Hid ((w.heap.size ≤ p ∧ w.heap.size ≤ a) ∧ p ≠ 0 ∧ a ≠ 0) := Lib.hid (by omega)
  have EP := Lib.hid hp
  have EA := Lib.hid ha
  clear hp ha hb
  go_enter Tryd.func15, Tryd.ntmps15
  go_wp2
  generalize (w.alloc (noSlots K)).alloc (.cells #[.slice (some ⟨w.heap.size, 0, none⟩) K K, .int .i64 M, .int .i64 0, .int .i64 0, .int .i64 0, .int .i64 0] 61) = w1 at N0 B0 ⊢
  rw [← EP.out] at N0 ⊢
  rw [← EA.out] at N0
  clear EP EA hlen
  go_loopw [32, 7] (fun i _ wr => ∃ k : Nat, k ≤ K ∧ i = .int .i64 k ∧ Nt wr p a K M k ∧ Below w.heap.size w wr) (fun i _ _ => K - (intOf i).toNat)
  case atStart => exact ⟨0, by omega, rfl, N0.out, B0.out⟩
  case round =>
    obtain ⟨k, hk, rfl, hn, hb⟩ := hrel
    have HN := Lib.hid hn
    have HB := Lib.hid hb
    clear hb
    by_cases hlt : k < K
    · have dk : decide ((k : Int) < (K : Int)) = true := by simp; omega
      have wk : IntKind.i64.wrap ((k : Int) + 1) = ((k + 1 : Nat) : Int) := by rw [IntWalk.i64_in _ (by omega)]; omega
      have c0 := hn.c0
      obtain ⟨e0, e1, e2⟩ := hn.hi k (Nat.le_refl _) hlt
      have g0 := hn.fo (k * 3) (by omega)
      have g1 := hn.fo (k * 3 + 1) (by omega)
      have g2 := hn.fo (k * 3 + 2) (by omega)
      clear hn
      go_wp2
      go_roundw
      case rel => exact ⟨k + 1, by omega, by go_num, HN.out.next hlt HP.out.2.2, HB.out.trans ((lay3_but wr a k).one HB.out.size HP.out.1.2)⟩
      case measure => simp [intOf]; omega
    · have dk : decide ((k : Int) < (K : Int)) = false := by simp; omega
      obtain rfl : k = K := by omega
      have c3 := hn.c3
      have f3 := hn.fp 3 (by omega)
      clear hn
      go_wp2
      go_ret2
      exact ⟨p, a, rfl, HN.out.done h1 h2 m1 m2 HP.out.2.1 HP.out.2.2, HB.out.trans (((But.refl (· = p) wr).setCell (p := ⟨p, 3, none⟩) (fun _ => rfl) _).one HB.out.size HP.out.1.1), HP.out.1.1, HP.out.1.2⟩
end Go.Proofs.YtelhhhmmkdbagaaDoor
