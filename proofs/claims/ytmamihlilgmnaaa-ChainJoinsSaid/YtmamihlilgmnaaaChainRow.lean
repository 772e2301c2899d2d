/-
  Slices of spans: as plain records ('Spans'), as a row of the call's own, and appends to it. No statement about a Go function.
-/
import Derived.Test.YtmamihlilgmnaaaChainNext
import Derived.Test.YtmamihlilgmnaaaRecs
import Derived.Test.YtmamihlilgmnaaaAppRun
namespace Go.Proofs.Ytmamihlilgmnaaa
open Go.ChangeShapes Go.WideShapes Go.ChangeAt Go.RowKit Go.Deep

/-- The cells of spans, one behind the other. -/
def flat (us : List Sp) : List Value := us.flatMap Sp.cells
theorem flat_len (us : List Sp) : (flat us).length = us.length * 3 := by
  unfold flat
  induction us with
  | nil => rfl
  | cons u r ih => rw [List.flatMap_cons, List.length_append, ih, List.length_cons]; simp [Sp.cells]; omega
theorem flat_app (us vs : List Sp) : flat (us ++ vs) = flat us ++ flat vs := List.flatMap_append
theorem flat_one (us : List Sp) (u : Sp) : flat us ++ u.cells = flat (us ++ [u]) := by rw [flat_app]; simp [flat]
theorem flat_cells (us : List Sp) : ∀ v ∈ flat us, v.oneCell' = true := fun v hv => by
  obtain ⟨u, _, hu⟩ := List.mem_flatMap.1 hv
  simp [Sp.cells] at hu
  rcases hu with rfl | rfl | rfl <;> rfl
theorem flat_at (us : List Sp) : ∀ (i : Nat) (u : Sp) (j : Nat) (v : Value), us[i]? = some u → u.cells[j]? = some v → (flat us)[i * 3 + j]? = some v := by
  induction us with
  | nil => intro i u j v h; simp at h
  | cons a r ih =>
    intro i u j v hu hv
    have hj : j < 3 := (List.getElem?_eq_some_iff.1 hv).1
    show (a.cells ++ flat r)[i * 3 + j]? = some v
    match i, hu with
    | 0, hu =>
      simp at hu
      subst hu
      rw [Nat.zero_mul, Nat.zero_add, List.getElem?_append_left hj]
      exact hv
    | i + 1, hu =>
      rw [List.getElem?_cons_succ] at hu
      have hl : a.cells.length = 3 := rfl
      rw [List.getElem?_append_right (by omega), hl, show (i + 1) * 3 + j - 3 = i * 3 + j by omega]
      exact ih i u j v hu hv
theorem flat_of (us : List Sp) : ∀ (k : Nat) (v : Value), (flat us)[k]? = some v → ∃ u, us[k / 3]? = some u ∧ u.cells[k % 3]? = some v := by
  intro k v hv
  have hk := (List.getElem?_eq_some_iff.1 hv).1
  rw [flat_len] at hk
  have hd : k / 3 < us.length := by omega
  have hu : us[k / 3]? = some us[k / 3] := List.getElem?_eq_getElem hd
  have hl : k % 3 < (us[k / 3]).cells.length := Nat.mod_lt k (by decide)
  have hc : (us[k / 3]).cells[k % 3]? = some ((us[k / 3]).cells[k % 3]) := List.getElem?_eq_getElem hl
  have := flat_at us _ _ _ _ hu hc
  rw [show k / 3 * 3 + k % 3 = k by omega, hv] at this
  exact ⟨_, hu, by rw [hc]; exact this.symm⟩

/-- A slice of spans that may be read, below block B. -/
def Spans (w : World) (B : Nat) (a : Option Addr) (n : Nat) (us : List Sp) : Prop := Recs Sp.cells (fun _ _ _ => True) 3 w B a n us
section
variable {w w' : World} {B n : Nat} {a : Option Addr} {us : List Sp}
theorem Spans.on (h : Spans w w.heap.size a n us) (hb : Below w.heap.size w w') : Spans w' w'.heap.size a n us := by
  have h1 : Spans w' w.heap.size a n us := Recs.below h (fun _ _ => trivial) hb
  refine ⟨h1.len, h1.max, fun _ _ _ => trivial, fun hn => ?_⟩
  obtain ⟨b, o, e, hB, hc⟩ := h1.head hn
  exact ⟨b, o, e, Nat.lt_of_lt_of_le hB hb.size, hc⟩
theorem Spans.empty (w : World) (B : Nat) (a : Option Addr) : Spans w B a 0 [] := ⟨rfl, by omega, fun _ _ _ => trivial, fun h => absurd h (by omega)⟩
/-- The three cells of a span. -/
theorem Spans.at3 (h : Spans w B a n us) {i : Nat} {u : Sp} (hu : us[i]? = some u) : ∃ b o, a = some ⟨b, o, none⟩ ∧ b < B ∧ w.cell? ⟨b, o + i * 3, none⟩ = some (.int .i64 (u.n : Int)) ∧ w.cell? ⟨b, o + i * 3 + 1, none⟩ = some (.int .i64 (u.a : Int)) ∧ w.cell? ⟨b, o + i * 3 + 2, none⟩ = some (.int .i64 (u.l : Int)) := by
  have hi := (List.getElem?_eq_some_iff.1 hu).1
  rw [h.len] at hi
  obtain ⟨b, o, e, hB, hc⟩ := h.head (by omega)
  exact ⟨b, o, e, hB, hc i u hu 0 _ rfl, hc i u hu 1 _ rfl, hc i u hu 2 _ rfl⟩
end

/-! ### A row of the call's own -/
theorem infoSpan : (Try.prog.info? 29).map (fun i => (i.zero, i.size, i.bytes)) = some (some (.agg #[.int .i64 0, .int .i64 0, .int .i64 0]), 3, 24) := by kernel_rfl
section
variable {w w' : World} {base g n cap : Nat} {us : List Sp}
/-- A row of spans. -/
def OwnS (w : World) (base g n cap : Nat) (us : List Sp) : Prop := w.ownsRow base 29 3 (.slice (some ⟨g, 0, none⟩) n cap) n (flat us)
theorem OwnS.but {S : Nat → Prop} (h : OwnS w base g n cap us) (hb : But S w w') (hn : ¬ S g) : OwnS w' base g n cap us := by
  obtain ⟨h1, h2 | ⟨g', cap', cur, hv, hb', hg, hr⟩⟩ := h
  · cases h2.1
  · have hv' := hv
    injection hv' with e1
    injection e1 with e1
    injection e1 with e1
    subst e1
    exact ⟨h1, .inr ⟨g, cap', cur, hv, hb', (hb.block _ (Array.getElem?_eq_some_iff.1 hg).1 hn).trans hg, hr⟩⟩
theorem OwnS.len (h : OwnS w base g n cap us) : us.length = n := by
  have := h.1
  rw [flat_len] at this
  omega
theorem OwnS.room (h : OwnS w base g n cap us) : n ≤ cap ∧ cap ≤ maxLen ∧ base ≤ g ∧ g < w.heap.size := by
  obtain ⟨h1, h2 | ⟨g', cap', cur, hv, hb', hg, h3, h4, _⟩⟩ := h
  · cases h2.1
  · injection hv with e1 _ e2
    injection e1 with e1
    injection e1 with e1
    subst e1 e2
    exact ⟨h3, h4, hb', (Array.getElem?_eq_some_iff.1 hg).1⟩
theorem OwnS.spans (h : OwnS w base g n cap us) : Spans w w.heap.size (some ⟨g, 0, none⟩) n us := by
  obtain ⟨c1, c2, c3, c4⟩ := h.room
  unfold maxLen at c2
  refine ⟨h.len, by omega, fun _ _ _ => trivial, fun _ => ⟨g, 0, rfl, c4, fun i u hu j v hv => ?_⟩⟩
  have hi := (List.getElem?_eq_some_iff.1 hu).1
  have hj : j < 3 := (List.getElem?_eq_some_iff.1 hv).1
  have hl := h.len
  have := World.ownsRow.cellAt h (i * 3 + j) (by omega)
  rw [flat_at us i u j v hu hv] at this
  rw [Nat.zero_add]
  exact this
/-- Spans, one cell behind the other, where they stand. -/
theorem Spans.news {b o m : Nat} {vs : List Sp} {B : Nat} (h : Spans w B (some ⟨b, o, none⟩) m vs) : ∀ (j : Nat) (u : Value), (flat vs)[j]? = some u → w.cell? ((⟨b, o, none⟩ : Addr).add j) = some u := by
  intro j u hu
  obtain ⟨s, hs, hc⟩ := flat_of vs j u hu
  have hi := (List.getElem?_eq_some_iff.1 hs).1
  obtain ⟨b', o', e, _, hcell⟩ := h.head (by have := h.len; omega)
  injection e with e
  injection e with e1 e2
  subst e1 e2
  have := hcell _ s hs _ u hc
  rw [show o + j / 3 * 3 + j % 3 = o + j by omega] at this
  by_cases h0 : j = 0
  · subst h0; simpa [Addr.add] using this
  · simpa [Addr.add, h0] using this
/-- One span more, where there is room for it. -/
theorem app_fits {b : Nat} {u : Sp} (h : OwnS w base g n cap us) (hu : Cs w b u.cells) (hr : n + 1 ≤ cap) (c : Nat) (ty : TypeId) :
    ∃ w', (Builtin.append_ #[24, 24] ty #[.slice (some ⟨g, 0, none⟩) n cap, .slice (some ⟨b, 0, none⟩) 1 c]).run Try.prog w = .ok (.slice (some ⟨g, 0, none⟩) (n + 1) cap) w' ∧ OwnS w' base g (n + 1) cap (us ++ [u]) ∧ But (· = g) w w' := by
  obtain ⟨i0, hi, hz0, hz1, hz2⟩ := info_parts infoSpan
  obtain ⟨w', h1, h2, h3⟩ := run_append_fits (P := Try.prog) w base 24 ty 29 i0 3 Try.underlying24 hi hz1 g n cap (flat us) h ⟨b, 0, none⟩ 1 c u.cells rfl
    (fun j v hv => by
      have := hu.cell j v hv
      by_cases h0 : j = 0
      · subst h0; simpa [Addr.add] using this
      · simpa [Addr.add, h0] using this)
    (fun v hv => flat_cells [u] v (by simpa [flat] using hv)) hr
  refine ⟨w', h1, ?_, ⟨h3.os, h3.tape, h3.output, h3.size, fun k hk hn => h3.block k hk (fun e => hn (by injection e))⟩⟩
  unfold OwnS
  rw [← flat_one]
  exact h2
theorem run_append_noneS (w : World) (b : Option Addr) (n cap : Nat) (c : Nat) (ty : TypeId) (h : n ≤ cap) :
    (Builtin.append_ #[24, 24] ty #[.slice b n cap, .slice none 0 c]).run Try.prog w = .ok (.slice b n cap) w := by
  obtain ⟨i0, hi, hz0, hz1, hz2⟩ := info_parts infoSpan
  cases b <;> simp [Builtin.append_, run_underlying Try.underlying24, sizeOf, typeInfo, hi, Builtin.lenOf, h, run_firstCells_none, storeCells]
/-- A row of the call's own, nil or not, grows by the spans of another slice. -/
theorem app_spans {v : Value} {al : Option Addr} {m c : Nat} {vs : List Sp} (hown : w.ownsRow base 29 3 v n (flat us)) (hy : Spans w w.heap.size al m vs) (hb : base ≤ w.heap.size) (hm : n + m ≤ 100000000) (ty : TypeId) :
    ∃ v' w', (Builtin.append_ #[24, 24] ty #[v, .slice al m c]).run Try.prog w = .ok v' w' ∧ w'.ownsRow base 29 3 v' (n + m) (flat (us ++ vs)) ∧ w.grownBy w' v.ownBlock := by
  obtain ⟨i0, hi, hz0, hz1, hz2⟩ := info_parts infoSpan
  by_cases h0 : al = none
  · subst h0
    have hm0 : m = 0 := by
      rcases Nat.eq_zero_or_pos m with e | e
      · exact e
      · obtain ⟨b, o, e, _⟩ := hy.head e
        cases e
    have hvs : vs = [] := List.length_eq_zero_iff.1 (by rw [hy.len]; exact hm0)
    subst hm0 hvs
    refine ⟨v, w, ?_, by rw [List.append_nil, Nat.add_zero]; exact hown, ⟨rfl, rfl, rfl, Nat.le_refl _, fun _ _ _ => rfl⟩⟩
    rcases hown.2 with ⟨rfl, rfl⟩ | ⟨g, cap, cur, rfl, _, _, hnc, _⟩
    · exact run_append_noneS w none 0 0 c ty (Nat.le_refl _)
    · exact run_append_noneS w _ n cap c ty hnc
  · obtain ⟨ad, rfl⟩ : ∃ ad, al = some ad := by
      cases al with
      | none => exact absurd rfl h0
      | some ad => exact ⟨ad, rfl⟩
    obtain ⟨v', w', hr, h2, h3, _, _⟩ := run_append_own_at (P := Try.prog) w base 24 ty 29 i0 (.agg #[.int .i64 0, .int .i64 0, .int .i64 0]) 3 24 Try.underlying24 hi hz0 hz1 hz2 rfl (by decide) v n (flat us) hown ad m c (flat vs) (by rw [flat_len, hy.len])
      (fun j u hu => by
        have hj := (List.getElem?_eq_some_iff.1 hu).1
        rw [flat_len] at hj
        obtain ⟨b, o, e, _, _⟩ := hy.head (by have := hy.len; omega)
        injection e with e
        subst e
        exact hy.news j u hu)
      (flat_cells vs) (by unfold maxLen; omega) (by omega) hb
    rw [← flat_app] at h2
    exact ⟨v', w', hr, h2, h3⟩
end
end Go.Proofs.Ytmamihlilgmnaaa
