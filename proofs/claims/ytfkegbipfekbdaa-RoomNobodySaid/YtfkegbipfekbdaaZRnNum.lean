import Derived.Test.YtfkegbipfekbdaaZRnDrop
/-
  Lists of nodes as plain lists: where a node stands, what is told of it, and how both turn when a node comes or goes. No statement about a Go function.
-/
namespace Go.Proofs.Ytfkegbipfekbdaa.Rn
open Go.ChangeShapes Go.WideShapes Go.ChangeAt Go.RowKit
set_option maxRecDepth 100000

/-- The node n stands in list i, at place j. -/
def At (L : List (List Int)) (i j : Nat) (n : Int) : Prop := ∃ x, L[i]? = some x ∧ x[j]? = some n
/-- What stands there, -1 for nothing. -/
def gt (L : List (List Int)) (i j : Nat) : Int := (((L[i]?).getD [])[j]?).getD (-1)
/-- How many nodes a list has. -/
def ln (L : List (List Int)) (i : Nat) : Nat := ((L[i]?).getD []).length

section
variable {L : List (List Int)} {i j : Nat} {n : Int}
theorem at_iff : At L i j n ↔ ((L[i]?).getD [])[j]? = some n := by
  unfold At
  cases hx : L[i]? with
  | none => simp
  | some x => simp
theorem at_gt (h : At L i j n) : gt L i j = n := by unfold gt; rw [at_iff.1 h]; rfl
theorem gt_at (h : gt L i j = n) (hn : n ≠ -1) : At L i j n := by
  rw [at_iff]
  unfold gt at h
  cases hy : ((L[i]?).getD [])[j]? with
  | none => rw [hy] at h; exact absurd h.symm hn
  | some m => rw [hy] at h; rw [show m = n from h]
theorem gt_out (h : ln L i ≤ j) : gt L i j = -1 := by
  unfold gt
  rw [List.getElem?_eq_none h]
  rfl
theorem gt_in (h : j < ln L i) : At L i j (gt L i j) := by
  rw [at_iff]
  unfold gt
  rw [List.getElem?_eq_getElem h]
  rfl
theorem at_lt (h : At L i j n) : j < ln L i := by
  rw [at_iff] at h
  exact (List.getElem?_eq_some_iff.1 h).1
theorem at_len (h : At L i j n) : i < L.length := by
  obtain ⟨x, h1, _⟩ := h
  exact (List.getElem?_eq_some_iff.1 h1).1
end

/-- N nodes, M lists of at most C nodes each; no node stands twice. -/
structure Wf (N M C : Nat) (L : List (List Int)) : Prop where
  len : L.length = M
  uniq : ∀ i j n i' j', At L i j n → At L i' j' n → i = i' ∧ j = j'
  fit : ∀ i j n, At L i j n → 0 ≤ n ∧ n < (N : Int)
  few : ∀ i, ln L i ≤ C

open Classical in
/-- Where a node stands. -/
noncomputable def plc (L : List (List Int)) (n : Int) : Option (Nat × Nat) := if h : ∃ q : Nat × Nat, At L q.1 q.2 n then some (Classical.choose h) else none
noncomputable def ofL (L : List (List Int)) (n : Int) : Int := match plc L n with | some q => (q.1 : Int) | none => -1
noncomputable def nextL (L : List (List Int)) (n : Int) : Int := match plc L n with | some q => gt L q.1 (q.2 + 1) | none => -1
noncomputable def prevL (L : List (List Int)) (n : Int) : Int := match plc L n with | some q => (if q.2 = 0 then -1 else gt L q.1 (q.2 - 1)) | none => -1
def firstL (L : List (List Int)) (i : Nat) : Int := gt L i 0
def lastL (L : List (List Int)) (i : Nat) : Int := gt L i (ln L i - 1)

section
variable {L : List (List Int)} {N M C i j : Nat} {n : Int}
theorem Wf.plc (hw : Wf N M C L) (h : At L i j n) : plc L n = some (i, j) := by
  have hx : ∃ q : Nat × Nat, At L q.1 q.2 n := ⟨(i, j), h⟩
  unfold Proofs.Ytfkegbipfekbdaa.Rn.plc
  rw [dif_pos hx]
  have := hw.uniq _ _ _ _ _ (Classical.choose_spec hx) h
  exact congrArg some (Prod.ext this.1 this.2)
theorem plc_no (h : ∀ i j, ¬ At L i j n) : plc L n = none := dif_neg fun ⟨_, hq⟩ => h _ _ hq
theorem Wf.of (hw : Wf N M C L) (h : At L i j n) : ofL L n = (i : Int) := by unfold ofL; rw [hw.plc h]
theorem Wf.next (hw : Wf N M C L) (h : At L i j n) : nextL L n = gt L i (j + 1) := by unfold nextL; rw [hw.plc h]
theorem Wf.prev (hw : Wf N M C L) (h : At L i j n) : prevL L n = if j = 0 then -1 else gt L i (j - 1) := by unfold prevL; rw [hw.plc h]
theorem of_no (h : ∀ i j, ¬ At L i j n) : ofL L n = -1 := by unfold ofL; rw [plc_no h]
theorem next_no (h : ∀ i j, ¬ At L i j n) : nextL L n = -1 := by unfold nextL; rw [plc_no h]
theorem prev_no (h : ∀ i j, ¬ At L i j n) : prevL L n = -1 := by unfold prevL; rw [plc_no h]
theorem spot (L : List (List Int)) (n : Int) : (∃ i j, At L i j n) ∨ ∀ i j, ¬ At L i j n := by
  by_cases h : ∃ i j, At L i j n
  · exact Or.inl h
  · exact Or.inr fun i j q => h ⟨i, j, q⟩
theorem Wf.gt_fit (hw : Wf N M C L) (i j : Nat) : orNone N (gt L i j) := by
  by_cases h : j < ln L i
  · have := hw.fit _ _ _ (gt_in h)
    exact Or.inr ⟨(gt L i j).toNat, by omega, by omega⟩
  · exact Or.inl (gt_out (by omega))
theorem Wf.gt_nat (hw : Wf N M C L) (h : j < ln L i) : 0 ≤ gt L i j := (hw.fit _ _ _ (gt_in h)).1
theorem Wf.empty (hw : Wf N M C L) (i : Nat) : gt L i 0 = -1 ↔ ln L i = 0 := by
  constructor
  · intro h
    rcases Nat.eq_zero_or_pos (ln L i) with e | e
    · exact e
    · have := hw.gt_nat e
      omega
  · intro h
    exact gt_out (by omega)
theorem Wf.more (hw : Wf N M C L) {C' : Nat} (h : C ≤ C') : Wf N M C' L := ⟨hw.len, hw.uniq, hw.fit, fun i => Nat.le_trans (hw.few i) h⟩
end

/-- A node comes. -/
def pushL (L : List (List Int)) (i : Nat) (n : Int) : List (List Int) := L.set i (n :: (L[i]?).getD [])
/-- A node goes. -/
def dropL (L : List (List Int)) (i j : Nat) : List (List Int) := L.set i (((L[i]?).getD []).eraseIdx j)

section
variable {L : List (List Int)} {N M C i j : Nat} {n : Int}
theorem row_set {y : List Int} (hi : i < L.length) (i' : Nat) : ((L.set i y)[i']?).getD [] = if i' = i then y else (L[i']?).getD [] := by
  rw [List.getElem?_set]
  by_cases e : i' = i
  · subst e
    simp [hi]
  · rw [if_neg (fun q => e q.symm), if_neg e]
theorem gt_push (hi : i < L.length) (i' j' : Nat) : gt (pushL L i n) i' j' = if i' = i then (if j' = 0 then n else gt L i (j' - 1)) else gt L i' j' := by
  unfold gt pushL
  rw [row_set hi]
  by_cases e : i' = i
  · rw [if_pos e, if_pos e]
    cases j' with
    | zero => simp
    | succ k => simp
  · rw [if_neg e, if_neg e]
theorem ln_push (hi : i < L.length) (i' : Nat) : ln (pushL L i n) i' = if i' = i then ln L i + 1 else ln L i' := by
  unfold ln pushL
  rw [row_set hi]
  by_cases e : i' = i
  · rw [if_pos e, if_pos e]; simp
  · rw [if_neg e, if_neg e]
theorem at_push (hi : i < L.length) (i' j' : Nat) (m : Int) : At (pushL L i n) i' j' m ↔ (i' = i ∧ ((j' = 0 ∧ m = n) ∨ (1 ≤ j' ∧ At L i (j' - 1) m))) ∨ (i' ≠ i ∧ At L i' j' m) := by
  rw [at_iff, at_iff, at_iff]
  unfold pushL
  rw [row_set hi]
  by_cases e : i' = i
  · rw [if_pos e]
    cases j' with
    | zero => simp [e]; exact eq_comm
    | succ k => simp [e]
  · rw [if_neg e]
    simp [e]
theorem gt_drop (hi : i < L.length) (i' j' : Nat) : gt (dropL L i j) i' j' = if i' = i then (if j' < j then gt L i j' else gt L i (j' + 1)) else gt L i' j' := by
  unfold gt dropL
  rw [row_set hi]
  by_cases e : i' = i
  · rw [if_pos e, if_pos e, List.getElem?_eraseIdx]
    split <;> rfl
  · rw [if_neg e, if_neg e]
theorem ln_drop (hi : i < L.length) (hj : j < ln L i) (i' : Nat) : ln (dropL L i j) i' = if i' = i then ln L i - 1 else ln L i' := by
  unfold ln dropL
  rw [row_set hi]
  by_cases e : i' = i
  · rw [if_pos e, if_pos e]
    exact List.length_eraseIdx_of_lt hj
  · rw [if_neg e, if_neg e]
theorem at_drop (hi : i < L.length) (i' j' : Nat) (m : Int) : At (dropL L i j) i' j' m ↔ (i' = i ∧ ((j' < j ∧ At L i j' m) ∨ (j ≤ j' ∧ At L i (j' + 1) m))) ∨ (i' ≠ i ∧ At L i' j' m) := by
  rw [at_iff, at_iff, at_iff, at_iff]
  unfold dropL
  rw [row_set hi]
  by_cases e : i' = i
  · rw [if_pos e, List.getElem?_eraseIdx]
    by_cases q : j' < j
    · rw [if_pos q]
      have : ¬ j ≤ j' := by omega
      simp [e, q, this]
    · rw [if_neg q]
      have : j ≤ j' := by omega
      simp [e, q, this]
  · rw [if_neg e]
    simp [e]

/-! ### A node comes -/
theorem Wf.push (hw : Wf N M C L) (hi : i < M) (hn : 0 ≤ n ∧ n < (N : Int)) (ho : ∀ i j, ¬ At L i j n) : Wf N M (C + 1) (pushL L i n) := by
  have hl : i < L.length := by rw [hw.len]; exact hi
  refine ⟨by unfold pushL; rw [List.length_set]; exact hw.len, fun i1 j1 m i2 j2 h1 h2 => ?_, fun i1 j1 m h1 => ?_, fun i1 => ?_⟩
  · rw [at_push hl] at h1 h2
    rcases h1 with ⟨e1, ⟨f1, g1⟩ | ⟨f1, g1⟩⟩ | ⟨e1, g1⟩ <;> rcases h2 with ⟨e2, ⟨f2, g2⟩ | ⟨f2, g2⟩⟩ | ⟨e2, g2⟩
    · omega
    · exact absurd (g1 ▸ g2) (ho _ _)
    · exact absurd (g1 ▸ g2) (ho _ _)
    · exact absurd (g2 ▸ g1) (ho _ _)
    · have := hw.uniq _ _ _ _ _ g1 g2; omega
    · have := hw.uniq _ _ _ _ _ g1 g2; omega
    · exact absurd (g2 ▸ g1) (ho _ _)
    · have := hw.uniq _ _ _ _ _ g1 g2; omega
    · have := hw.uniq _ _ _ _ _ g1 g2; omega
  · rw [at_push hl] at h1
    rcases h1 with ⟨e1, ⟨f1, g1⟩ | ⟨f1, g1⟩⟩ | ⟨e1, g1⟩
    · rw [g1]; exact hn
    · exact hw.fit _ _ _ g1
    · exact hw.fit _ _ _ g1
  · rw [ln_push hl]
    have h1 := hw.few i
    have h2 := hw.few i1
    split <;> omega
theorem Wf.push_told (hw : Wf N M C L) (hi : i < M) (hn : 0 ≤ n ∧ n < (N : Int)) (ho : ∀ i j, ¬ At L i j n) (m : Int) (hm : 0 ≤ m) :
    ofL (pushL L i n) m = (if m = n then (i : Int) else ofL L m) ∧ nextL (pushL L i n) m = (if m = n then gt L i 0 else nextL L m) ∧ prevL (pushL L i n) m = (if m = n then -1 else if m = gt L i 0 then n else prevL L m) := by
  have hl : i < L.length := by rw [hw.len]; exact hi
  have hw' := hw.push hi hn ho
  by_cases e : m = n
  · subst e
    have h1 : At (pushL L i m) i 0 m := (at_push hl _ _ _).2 (Or.inl ⟨rfl, Or.inl ⟨rfl, rfl⟩⟩)
    rw [hw'.of h1, hw'.next h1, hw'.prev h1, gt_push hl]
    simp
  · rw [if_neg e, if_neg e, if_neg e]
    rcases spot L m with ⟨i1, j1, h1⟩ | h1
    · by_cases q : i1 = i
      · subst q
        have h2 : At (pushL L i1 n) i1 (j1 + 1) m := (at_push hl _ _ _).2 (Or.inl ⟨rfl, Or.inr ⟨by omega, by simpa using h1⟩⟩)
        rw [hw'.of h2, hw'.next h2, hw'.prev h2, hw.of h1, hw.next h1, hw.prev h1, gt_push hl, gt_push hl]
        refine ⟨rfl, by simp, ?_⟩
        rw [if_neg (by omega), if_pos rfl]
        by_cases z : j1 = 0
        · subst z
          rw [if_pos rfl, if_pos (at_gt h1).symm]
        · have : ¬ m = gt L i1 0 := fun g => z (hw.uniq _ _ _ _ _ h1 (gt_at g.symm (by omega))).2
          rw [if_neg (by omega), if_neg this, if_neg z]
          rfl
      · have h2 : At (pushL L i n) i1 j1 m := (at_push hl _ _ _).2 (Or.inr ⟨q, h1⟩)
        have : ¬ m = gt L i 0 := fun g => q (hw.uniq _ _ _ _ _ h1 (gt_at g.symm (by omega))).1
        rw [hw'.of h2, hw'.next h2, hw'.prev h2, hw.of h1, hw.next h1, hw.prev h1, gt_push hl, gt_push hl, if_neg q, if_neg q, if_neg this]
        exact ⟨rfl, rfl, rfl⟩
    · have h2 : ∀ i' j', ¬ At (pushL L i n) i' j' m := fun i' j' h => by
        rw [at_push hl] at h
        rcases h with ⟨_, ⟨_, g⟩ | ⟨_, g⟩⟩ | ⟨_, g⟩
        · exact e g
        · exact h1 _ _ g
        · exact h1 _ _ g
      have : ¬ m = gt L i 0 := fun g => h1 _ _ (gt_at g.symm (by omega))
      rw [of_no h2, next_no h2, prev_no h2, of_no h1, next_no h1, prev_no h1, if_neg this]
      exact ⟨rfl, rfl, rfl⟩
theorem Wf.push_ends (hw : Wf N M C L) (hi : i < M) (i' : Nat) :
    firstL (pushL L i n) i' = (if i' = i then n else firstL L i') ∧ lastL (pushL L i n) i' = (if i' = i then (if gt L i 0 = -1 then n else lastL L i) else lastL L i') ∧ (ln (pushL L i n) i' : Int) = (if i' = i then (ln L i : Int) + 1 else (ln L i' : Int)) := by
  have hl : i < L.length := by rw [hw.len]; exact hi
  unfold firstL lastL
  rw [gt_push hl, gt_push hl, ln_push hl]
  by_cases e : i' = i
  · rw [if_pos e, if_pos e, if_pos e, if_pos e, if_pos e, if_pos e, if_pos rfl]
    refine ⟨rfl, ?_, by omega⟩
    by_cases z : ln L i = 0
    · rw [if_pos (by omega), if_pos ((hw.empty i).2 z)]
    · rw [if_neg (by omega), if_neg (fun g => z ((hw.empty i).1 g))]
      rfl
  · rw [if_neg e, if_neg e, if_neg e, if_neg e, if_neg e, if_neg e]
    exact ⟨rfl, rfl, rfl⟩

/-! ### A node goes -/
theorem Wf.drop (hw : Wf N M C L) (h : At L i j n) : Wf N M C (dropL L i j) := by
  have hl := at_len h
  refine ⟨by unfold dropL; rw [List.length_set]; exact hw.len, fun i1 j1 m i2 j2 h1 h2 => ?_, fun i1 j1 m h1 => ?_, fun i1 => ?_⟩
  · rw [at_drop hl] at h1 h2
    rcases h1 with ⟨e1, ⟨f1, g1⟩ | ⟨f1, g1⟩⟩ | ⟨e1, g1⟩ <;> rcases h2 with ⟨e2, ⟨f2, g2⟩ | ⟨f2, g2⟩⟩ | ⟨e2, g2⟩ <;> (have := hw.uniq _ _ _ _ _ g1 g2; omega)
  · rw [at_drop hl] at h1
    rcases h1 with ⟨e1, ⟨f1, g1⟩ | ⟨f1, g1⟩⟩ | ⟨e1, g1⟩ <;> exact hw.fit _ _ _ g1
  · rw [ln_drop hl (at_lt h)]
    have h1 := hw.few i
    have h2 := hw.few i1
    split <;> omega
theorem Wf.drop_no (hw : Wf N M C L) (h : At L i j n) : ∀ i' j', ¬ At (dropL L i j) i' j' n := fun i' j' k => by
  rw [at_drop (at_len h)] at k
  rcases k with ⟨e1, ⟨f1, g1⟩ | ⟨f1, g1⟩⟩ | ⟨e1, g1⟩ <;> (have := hw.uniq _ _ _ _ _ h g1; omega)
theorem Wf.drop_told (hw : Wf N M C L) (h : At L i j n) (m : Int) (hm : 0 ≤ m) :
    ofL (dropL L i j) m = (if m = n then -1 else ofL L m) ∧ nextL (dropL L i j) m = (if m = n then -1 else if m = prevL L n then nextL L n else nextL L m) ∧ prevL (dropL L i j) m = (if m = n then -1 else if m = nextL L n then prevL L n else prevL L m) := by
  have hl := at_len h
  have hw' := hw.drop h
  by_cases e : m = n
  · subst e
    have h1 := hw.drop_no h
    rw [of_no h1, next_no h1, prev_no h1]
    simp
  · rw [if_neg e, if_neg e, if_neg e, hw.prev h, hw.next h]
    rcases spot L m with ⟨i1, j1, h1⟩ | h1
    · rw [hw.of h1, hw.next h1, hw.prev h1]
      by_cases q : i1 = i
      · subst q
        have hne : j1 ≠ j := fun z => by subst z; exact e ((at_gt h1).symm.trans (at_gt h))
        have p0 : (m = if j = 0 then -1 else gt L i1 (j - 1)) ↔ j1 + 1 = j := by
          constructor
          · intro g
            by_cases z : j = 0
            · rw [if_pos z] at g; omega
            · rw [if_neg z] at g
              have := (hw.uniq _ _ _ _ _ h1 (gt_at g.symm (by omega))).2
              omega
          · intro g
            rw [if_neg (by omega), show j - 1 = j1 by omega]
            exact (at_gt h1).symm
        have n0 : (m = gt L i1 (j + 1)) ↔ j1 = j + 1 := by
          constructor
          · intro g
            exact (hw.uniq _ _ _ _ _ h1 (gt_at g.symm (by omega))).2
          · intro g
            rw [← g]
            exact (at_gt h1).symm
        by_cases q : j1 < j
        · have h2 : At (dropL L i1 j) i1 j1 m := (at_drop hl _ _ _).2 (Or.inl ⟨rfl, Or.inl ⟨q, h1⟩⟩)
          rw [hw'.of h2, hw'.next h2, hw'.prev h2, gt_drop hl, gt_drop hl, if_pos rfl, if_pos rfl]
          refine ⟨rfl, ?_, ?_⟩
          · by_cases z : j1 + 1 = j
            · rw [if_neg (by omega), if_pos (p0.2 z), z]
            · rw [if_pos (by omega), if_neg (fun g => z (p0.1 g))]
          · rw [if_neg (show ¬ m = gt L i1 (j + 1) from fun g => by have := n0.1 g; omega)]
            by_cases z : j1 = 0
            · rw [if_pos z, if_pos z]
            · rw [if_neg z, if_neg z, if_pos (by omega)]
        · have h2 : At (dropL L i1 j) i1 (j1 - 1) m := (at_drop hl _ _ _).2 (Or.inl ⟨rfl, Or.inr ⟨by omega, by rw [show j1 - 1 + 1 = j1 by omega]; exact h1⟩⟩)
          rw [hw'.of h2, hw'.next h2, hw'.prev h2, gt_drop hl, gt_drop hl, if_pos rfl, if_pos rfl]
          refine ⟨rfl, ?_, ?_⟩
          · rw [if_neg (by omega), if_neg (fun g => by have := p0.1 g; omega), show j1 - 1 + 1 + 1 = j1 + 1 by omega]
          · by_cases z : j1 = j + 1
            · rw [if_pos (n0.2 z)]
              by_cases y : j = 0
              · rw [if_pos (by omega), if_pos y]
              · rw [if_neg (by omega), if_neg y, if_pos (by omega), show j1 - 1 - 1 = j - 1 by omega]
            · rw [if_neg (show ¬ m = gt L i1 (j + 1) from fun g => z (n0.1 g)), if_neg (by omega), if_neg (by omega), if_neg (by omega), show j1 - 1 - 1 + 1 = j1 - 1 by omega]
      · have h2 : At (dropL L i j) i1 j1 m := (at_drop hl _ _ _).2 (Or.inr ⟨q, h1⟩)
        have p0 : ¬ (m = if j = 0 then -1 else gt L i (j - 1)) := fun g => by
          by_cases z : j = 0
          · rw [if_pos z] at g; omega
          · rw [if_neg z] at g
            exact q (hw.uniq _ _ _ _ _ h1 (gt_at g.symm (by omega))).1
        have n0 : ¬ m = gt L i (j + 1) := fun g => q (hw.uniq _ _ _ _ _ h1 (gt_at g.symm (by omega))).1
        rw [hw'.of h2, hw'.next h2, hw'.prev h2, gt_drop hl, gt_drop hl, if_neg q, if_neg q, if_neg p0, if_neg n0]
        exact ⟨rfl, rfl, rfl⟩
    · have h2 : ∀ i' j', ¬ At (dropL L i j) i' j' m := fun i' j' k => by
        rw [at_drop hl] at k
        rcases k with ⟨_, ⟨_, g⟩ | ⟨_, g⟩⟩ | ⟨_, g⟩ <;> exact h1 _ _ g
      have p0 : ¬ (m = if j = 0 then -1 else gt L i (j - 1)) := fun g => by
        by_cases z : j = 0
        · rw [if_pos z] at g; omega
        · rw [if_neg z] at g
          exact h1 _ _ (gt_at g.symm (by omega))
      have n0 : ¬ m = gt L i (j + 1) := fun g => h1 _ _ (gt_at g.symm (by omega))
      rw [of_no h2, next_no h2, prev_no h2, of_no h1, next_no h1, prev_no h1, if_neg p0, if_neg n0]
      exact ⟨rfl, rfl, rfl⟩
theorem Wf.drop_ends (hw : Wf N M C L) (h : At L i j n) (i' : Nat) :
    firstL (dropL L i j) i' = (if i' = i then (if prevL L n = -1 then nextL L n else firstL L i) else firstL L i') ∧ lastL (dropL L i j) i' = (if i' = i then (if nextL L n = -1 then prevL L n else lastL L i) else lastL L i') ∧ (ln (dropL L i j) i' : Int) = (if i' = i then (ln L i : Int) - 1 else (ln L i' : Int)) := by
  have hl := at_len h
  have hj := at_lt h
  unfold firstL lastL
  rw [gt_drop hl, gt_drop hl, ln_drop hl hj, hw.prev h, hw.next h]
  by_cases e : i' = i
  · rw [if_pos e, if_pos e, if_pos e, if_pos e, if_pos e, if_pos e]
    refine ⟨?_, ?_, by omega⟩
    · by_cases z : j = 0
      · subst z
        rw [if_neg (by omega), if_pos rfl, if_pos rfl]
      · have := hw.gt_nat (show j - 1 < ln L i by omega)
        rw [if_pos (by omega), if_neg z, if_neg (by omega)]
    · by_cases z : j + 1 = ln L i
      · rw [if_pos (gt_out (by omega))]
        by_cases y : j = 0
        · rw [if_pos y, if_neg (by omega)]
          exact gt_out (by omega)
        · rw [if_neg y, if_pos (by omega), show ln L i - 1 - 1 = j - 1 by omega]
      · have := hw.gt_nat (show j + 1 < ln L i by omega)
        rw [if_neg (show ¬ gt L i (j + 1) = -1 by omega), if_neg (by omega), show ln L i - 1 - 1 + 1 = ln L i - 1 by omega]
  · rw [if_neg e, if_neg e, if_neg e, if_neg e, if_neg e, if_neg e]
    exact ⟨rfl, rfl, rfl⟩

/-! ### Back again -/
theorem drop_push (hi : i < L.length) : dropL (pushL L i n) i 0 = L := by
  unfold dropL pushL
  rw [List.set_set]
  have e : ((L.set i (n :: (L[i]?).getD []))[i]?).getD [] = n :: (L[i]?).getD [] := by rw [row_set hi, if_pos rfl]
  rw [e, List.eraseIdx_zero, List.tail_cons, List.getElem?_eq_getElem hi]
  exact List.set_getElem_self hi
end
end Go.Proofs.Ytfkegbipfekbdaa.Rn
