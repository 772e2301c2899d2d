/-
  A slice of bools that reads as a list, nil let in, in a word of its own; how it is kept while memory grows; its appends. No statement about a Go function.
-/
import Derived.Test.YtkcdehnpkephgaaAppRun
import Derived.Test.YtkcdehnpkephgaaBut
namespace Go.Proofs.Ytkcdehnpkephgaa
open Go.ChangeShapes Go.WideShapes Go.ChangeAt Go.RowKit Go.Deep

/-- The slice value '.slice a n c' holds the n bools xs, below block B. -/
structure Bools (w : World) (B : Nat) (a : Option Addr) (n : Nat) (xs : List Bool) : Prop where
  len : xs.length = n
  max : n ≤ 9223372036854775807
  head : 0 < n → ∃ b o, a = some ⟨b, o, none⟩ ∧ b < B ∧ ∀ (k : Nat) (s : Bool), xs[k]? = some s → w.cell? ⟨b, o + k, none⟩ = some (.bool s)
section
variable {w w' : World} {B B' n : Nat} {a : Option Addr} {xs : List Bool} {S : Nat → Prop}
theorem Bools.at_ (h : Bools w B a n xs) {k : Nat} (hk : k < n) : ∃ s, xs[k]? = some s := by
  have hl : k < xs.length := by rw [h.len]; exact hk
  exact ⟨_, List.getElem?_eq_getElem hl⟩
theorem Bools.keep (h : Bools w B a n xs) (hk : ∀ p : Addr, p.block < B → w'.cell? p = w.cell? p) : Bools w' B a n xs :=
  ⟨h.len, h.max, fun hn => by
    obtain ⟨b, o, e, hb, hc⟩ := h.head hn
    exact ⟨b, o, e, hb, fun k s hs => (hk _ hb).trans (hc k s hs)⟩⟩
theorem Bools.more (h : Bools w B a n xs) (hB : B ≤ B') : Bools w B' a n xs :=
  ⟨h.len, h.max, fun hn => by
    obtain ⟨b, o, e, hb, hc⟩ := h.head hn
    exact ⟨b, o, e, by omega, hc⟩⟩
theorem Bools.below (h : Bools w B a n xs) (hb : Below B w w') : Bools w' B a n xs := h.keep fun _ hp => hb.cell hp
theorem Bools.on (h : Bools w w.heap.size a n xs) (hb : Below w.heap.size w w') : Bools w' w'.heap.size a n xs := (h.below hb).more hb.size
theorem Bools.butAt {b o : Nat} (h : Bools w B (some ⟨b, o, none⟩) n xs) (hb : But S w w') (hB : B ≤ w.heap.size) (hn : ¬ S b) : Bools w' B (some ⟨b, o, none⟩) n xs :=
  ⟨h.len, h.max, fun h0 => by
    obtain ⟨b', o', e, hl, hc⟩ := h.head h0
    injection e with e
    injection e with e1 e2
    subst e1 e2
    exact ⟨b, o, rfl, hl, fun k s hs => (hb.cell (p := ⟨b, o + k, none⟩) (by show b < _; omega) hn).trans (hc k s hs)⟩⟩
theorem Bools.far (h : Bools w B a n xs) (hb : But S w w') (hB : B ≤ w.heap.size) (hn : 0 < n → ∃ f o, a = some ⟨f, o, none⟩ ∧ ¬ S f) : Bools w' B a n xs := by
  by_cases h0 : 0 < n
  · obtain ⟨f, o, rfl, hf⟩ := hn h0
    exact h.butAt hb hB hf
  · exact ⟨h.len, h.max, fun q => absurd q h0⟩
theorem Bools.set {g k : Nat} {v : Bool} (h : Bools w w.heap.size (some ⟨g, 0, none⟩) n xs) (hk : k < n) (hs : w.heap.size ≤ w'.heap.size) (h1 : w'.cell? ⟨g, k, none⟩ = some (.bool v)) (h2 : ∀ j, j ≠ k → w'.cell? ⟨g, j, none⟩ = w.cell? ⟨g, j, none⟩) :
    Bools w' w'.heap.size (some ⟨g, 0, none⟩) n (xs.set k v) := by
  have hl := h.len
  obtain ⟨b, o', e, hb, hc⟩ := h.head (by omega)
  injection e with e
  injection e with e1 e2
  subst e1 e2
  refine ⟨by rw [List.length_set]; exact hl, h.max, fun _ => ⟨g, 0, rfl, by omega, fun j s hj => ?_⟩⟩
  rw [Nat.zero_add]
  by_cases z : k = j
  · subst z
    rw [List.getElem?_set_self (by omega)] at hj
    cases hj
    exact h1
  · rw [List.getElem?_set_ne z] at hj
    have := hc j s hj
    rw [Nat.zero_add] at this
    exact (h2 j (fun q => z q.symm)).trans this
theorem newsOfB {b o : Nat} (h : Bools w B (some ⟨b, o, none⟩) n xs) : ∀ (j : Nat) (u : Value), (xs.map Value.bool)[j]? = some u → w.cell? ((⟨b, o, none⟩ : Addr).add j) = some u := by
  intro j u hu
  rw [List.getElem?_map] at hu
  cases hx : xs[j]? with
  | none => rw [hx] at hu; simp at hu
  | some x =>
    rw [hx] at hu
    simp at hu
    subst hu
    have hj := (List.getElem?_eq_some_iff.1 hx).1
    obtain ⟨b', o', e, _, hc⟩ := h.head (by have := h.len; omega)
    injection e with e
    injection e with e1 e2
    subst e1 e2
    have := hc j x hx
    by_cases h0 : j = 0
    · subst h0; simpa [Addr.add] using this
    · simpa [Addr.add, h0] using this
end
theorem bools_own {w : World} {base g n cap : Nat} {xs : List Bool} (h : w.ownsRow base 4 1 (.slice (some ⟨g, 0, none⟩) n cap) n (xs.map Value.bool)) (hm : n ≤ 1000000) : Bools w w.heap.size (some ⟨g, 0, none⟩) n xs ∧ n ≤ cap := by
  have hlen : xs.length = n := by have := h.1; simpa using this
  constructor
  · refine ⟨hlen, by omega, fun hn => ?_⟩
    obtain ⟨g', cap', hv, hb, hg⟩ := h.form hn
    injection hv with hv
    injection hv with hv
    injection hv with hv
    subst hv
    refine ⟨g, 0, rfl, hg, fun k s hs => ?_⟩
    obtain ⟨hk, _⟩ := List.getElem?_eq_some_iff.1 hs
    have := h.cellAt k (by omega)
    rw [List.getElem?_map, hs] at this
    simpa using this
  · rcases h.2 with ⟨e, _⟩ | ⟨g', cap', cur, hv, _, _, hc, _⟩
    · cases e
    · injection hv with _ _ e3
      omega
theorem infoBool : (Try.prog.info? 4).map (fun i => (i.zero, i.size, i.bytes)) = some (some (.bool false), 1, 1) := by kernel_rfl
theorem run_append_noneB (w : World) (b : Option Addr) (n cap : Nat) (c : Nat) (ty : TypeId) (h : n ≤ cap) :
    (Builtin.append_ #[33, 33] ty #[.slice b n cap, .slice none 0 c]).run Try.prog w = .ok (.slice b n cap) w := by
  obtain ⟨i0, hi, hz0, hz1, hz2⟩ := info_parts infoBool
  cases b <;> simp [Builtin.append_, run_underlying Try.underlying33, sizeOf, typeInfo, hi, Builtin.lenOf, h, run_firstCells_none, storeCells]

section
variable {w : World} {base g n cap m c : Nat} {xs ys : List Bool} {al : Option Addr}
/-- A row of the call's own grows by the ints of another one. -/
theorem app_bools (hown : w.ownsRow base 4 1 (.slice (some ⟨g, 0, none⟩) n cap) n (xs.map Value.bool)) (hy : Bools w w.heap.size al m ys) (hb : base ≤ w.heap.size) (hm : n + m ≤ 1000000) (ty : TypeId) :
    ∃ g' cap' w', (Builtin.append_ #[33, 33] ty #[.slice (some ⟨g, 0, none⟩) n cap, .slice al m c]).run Try.prog w = .ok (.slice (some ⟨g', 0, none⟩) (n + m) cap') w' ∧
      w'.ownsRow base 4 1 (.slice (some ⟨g', 0, none⟩) (n + m) cap') (n + m) ((xs ++ ys).map Value.bool) ∧ Below base w w' := by
  obtain ⟨i0, hi, hz0, hz1, hz2⟩ := info_parts infoBool
  have hg := hown.lt g rfl
  have hcap : n ≤ cap := by
    rcases hown.2 with ⟨e, _⟩ | ⟨g', cap', cur, hv, _, _, hc, _⟩
    · cases e
    · injection hv with _ _ e3
      omega
  by_cases h0 : al = none
  · subst h0
    have hm0 : m = 0 := by
      rcases Nat.eq_zero_or_pos m with e | e
      · exact e
      · obtain ⟨b, o, e, _⟩ := hy.head e
        cases e
    have hys : ys = [] := List.length_eq_zero_iff.1 (by rw [hy.len]; exact hm0)
    subst hm0 hys
    refine ⟨g, cap, w, run_append_noneB w _ n cap c ty hcap, ?_, Below.refl _ _⟩
    rw [List.append_nil, Nat.add_zero]
    exact hown
  · obtain ⟨ad, rfl⟩ : ∃ ad, al = some ad := by
      cases al with
      | none => exact absurd rfl h0
      | some ad => exact ⟨ad, rfl⟩
    obtain ⟨v', w', hr, h2, h3, _, h5⟩ := run_append_own_at (P := Try.prog) w base 33 ty 4 i0 (.bool false) 1 1 Try.underlying33 hi hz0 hz1 hz2 rfl Nat.one_pos (.slice (some ⟨g, 0, none⟩) n cap) n (xs.map Value.bool) hown ad m c (ys.map Value.bool) (by simp [hy.len])
      (fun j u hu => by
        have hj : j < ys.length := by have := (List.getElem?_eq_some_iff.1 hu).1; simpa using this
        obtain ⟨b, o, e, _, _⟩ := hy.head (by have := hy.len; omega)
        cases e
        exact newsOfB hy j u hu)
      (fun u hu => by obtain ⟨x, _, rfl⟩ := List.mem_map.1 hu; rfl) (by unfold maxLen; omega) (by omega) hb
    rw [← List.map_append] at h2
    have hv : ∃ g' cap', v' = .slice (some ⟨g', 0, none⟩) (n + m) cap' := by
      rcases h2.2 with ⟨e, _⟩ | ⟨g', cap', _, hv, _⟩
      · subst e
        rcases h5 with h5 | h5 <;> simp [Value.ownBlock] at h5
      · exact ⟨g', cap', hv⟩
    obtain ⟨g', cap', rfl⟩ := hv
    exact ⟨g', cap', w', hr, h2, Below.grown (Below.refl _ _) h3 hb (fun k hk => by simp [Value.ownBlock] at hk; omega)⟩
end

theorem app_oneB {w : World} {base : Nat} {v : Value} {k : Nat} {xs : List Bool} (hown : w.ownsRow base 4 1 v k (xs.map Value.bool)) (hb : base ≤ w.heap.size) (hm : k ≤ 1000000) (y : Bool) (ty : TypeId) :
    ∃ g cap w', (Builtin.append_ #[33, 33] ty #[v, .slice (some ⟨w.heap.size, 0, none⟩) 1 1]).run Try.prog (w.alloc (.cells #[.bool y] 4)) = .ok (.slice (some ⟨g, 0, none⟩) (k + 1) cap) w' ∧
      w'.ownsRow base 4 1 (.slice (some ⟨g, 0, none⟩) (k + 1) cap) (k + 1) ((xs ++ [y]).map Value.bool) ∧ (w.alloc (.cells #[.bool y] 4)).grownBy w' v.ownBlock ∧ (v.ownBlock = some g ∨ g = w.heap.size + 1) := by
  obtain ⟨i0, hi, hz0, hz1, hz2⟩ := info_parts infoBool
  obtain ⟨v', w', hr, h2, h3, _, h5⟩ := run_append_own_at (P := Try.prog) (w.alloc (.cells #[.bool y] 4)) base 33 ty 4 i0 (.bool false) 1 1 Try.underlying33 hi hz0 hz1 hz2 rfl Nat.one_pos v k (xs.map Value.bool) (hown.alloc _) ⟨w.heap.size, 0, none⟩ 1 1 [.bool y] rfl
    (newsOne (by simp)) (fun u hu => by rw [List.mem_singleton.1 hu]; rfl) (by unfold maxLen; omega) (by omega) (by simp; omega)
  obtain ⟨g, cap, rfl, hg, _⟩ := h2.form (by omega)
  refine ⟨g, cap, w', hr, by rw [List.map_append]; exact h2, h3, ?_⟩
  rcases h5 with h5 | h5
  · exact Or.inl h5.symm
  · simp [Value.ownBlock] at h5
    exact Or.inr h5
end Go.Proofs.Ytkcdehnpkephgaa
