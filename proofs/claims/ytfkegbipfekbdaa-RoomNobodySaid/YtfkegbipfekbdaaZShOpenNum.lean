import Derived.Test.YtfkegbipfekbdaaZShGive
import Derived.Test.YtfkegbipfekbdaaZShBackNum
/-
  A plain shelf's numbers: how many blocks its pages hold, if so many of them are open; acts keep to what a shelf keeps to. No statement about a Go function.
-/
namespace Go.Proofs.Ytfkegbipfekbdaa.Sh
open Pg (holeOf topOf usedN)

/-- How many pages are open. -/
def openN (ps : Ps) : Nat := (ps.filter fun q => holeOf q.2 != -1).length
section
variable {K B : Nat} {c : Int} {s : Shl} {ps : Ps}
theorem open_le : openN ps ≤ ps.length := List.length_filter_le _ _
theorem open_cons (m : Int) (X : List Int) (r : Ps) : openN ((m, X) :: r) = if holeOf X = -1 then openN r else openN r + 1 := by
  unfold openN
  rw [List.filter_cons]
  by_cases h : holeOf X = -1
  · simp [h]
  · simp [h]
theorem hole_lt {X : List Int} (h : holeOf X ≠ -1) : usedN X + 1 ≤ X.length := by
  have h1 := Pg.used_le X
  have h2 : usedN X ≠ X.length := fun q => h ((Pg.full_iff X).1 q)
  omega
theorem hole_eq {X : List Int} (h : holeOf X = -1) : usedN X = X.length := (Pg.full_iff X).2 h
theorem most : ∀ {ps : Ps}, (∀ n X, (n, X) ∈ ps → X.length = B) → usedS ps + openN ps ≤ ps.length * B
  | [], _ => by simp [usedS, openN]
  | (m, X) :: r, h => by
    have h1 := most (ps := r) fun n Z q => h n Z (List.mem_cons_of_mem _ q)
    have h2 := h m X List.mem_cons_self
    rw [open_cons, List.length_cons, Nat.succ_mul]
    simp only [usedS]
    by_cases q : holeOf X = -1
    · rw [if_pos q]
      have := hole_eq q
      omega
    · rw [if_neg q]
      have := hole_lt q
      omega
theorem least : ∀ {ps : Ps}, (∀ n X, (n, X) ∈ ps → X.length = B) → (∀ n X, (n, X) ∈ ps → 1 ≤ usedN X) → ps.length * B ≤ usedS ps + openN ps * (B - 1)
  | [], _, _ => by simp [usedS, openN]
  | (m, X) :: r, h, hu => by
    have h1 := least (ps := r) (fun n Z q => h n Z (List.mem_cons_of_mem _ q)) (fun n Z q => hu n Z (List.mem_cons_of_mem _ q))
    have h2 := h m X List.mem_cons_self
    have h3 := hu m X List.mem_cons_self
    rw [open_cons, List.length_cons, Nat.succ_mul]
    simp only [usedS]
    by_cases q : holeOf X = -1
    · rw [if_pos q]
      have := hole_eq q
      omega
    · rw [if_neg q, Nat.succ_mul]
      have := hole_lt q
      omega
theorem each : ∀ {ps : Ps}, (∀ n X, (n, X) ∈ ps → 1 ≤ usedN X) → ps.length ≤ usedS ps
  | [], _ => by simp [usedS]
  | (m, X) :: r, hu => by
    have h1 := each (ps := r) (fun n Z q => hu n Z (List.mem_cons_of_mem _ q))
    have h3 := hu m X List.mem_cons_self
    simp only [usedS, List.length_cons]
    omega
theorem Sw.openN (h : Sw K c B s) : s.op.length = Sh.openN s.ps := by
  have e : Sh.openN s.ps = ((s.ps.filter fun q => holeOf q.2 != -1).map (·.1)).length := by rw [List.length_map]; rfl
  rw [e]
  refine List.Perm.length_eq ((List.perm_ext_iff_of_nodup h.opn ?_).2 fun n => ?_)
  · exact List.Nodup.sublist (List.Sublist.map _ List.filter_sublist) h.nod
  · rw [h.opm n, List.mem_map]
    constructor
    · rintro ⟨X, hX, hh⟩
      exact ⟨(n, X), List.mem_filter.2 ⟨hX, by simpa using hh⟩, rfl⟩
    · rintro ⟨⟨m, X⟩, hq, rfl⟩
      obtain ⟨q1, q2⟩ := List.mem_filter.1 hq
      exact ⟨X, q1, by simpa using q2⟩
/-- All pages of the pool are the shelf's, or free. -/
def Tw (K : Nat) (s : Shl) : Prop := s.fl.length + s.ps.length = K
theorem Tw.take (h : Tw K s) (hf : ∀ r x, s.fl = x :: r → (Sh.growS c B s).fl.length + (Sh.growS c B s).ps.length = K) (o : Int) : Tw K (takeOut c B s o).1 := by
  unfold takeOut
  split
  · exact h
  · split
    · exact h
    · rename_i hn
      dsimp only
      unfold Tw fillS
      dsimp only
      rw [len_set]
      split
      · rename_i ho
        cases hq : s.fl with
        | nil => exact absurd ⟨ho, hq⟩ hn
        | cons x r => exact hf r x hq
      · exact h
theorem grow_tw (h : Tw K s) : ∀ r x, s.fl = x :: r → (Sh.growS c B s).fl.length + (Sh.growS c B s).ps.length = K := by
  intro r x hf
  unfold Tw at h
  rw [hf] at h
  unfold Sh.growS
  rw [hf]
  simp only [List.length_append, List.length_cons, List.length_nil] at h ⊢
  omega
theorem Tw.give (h : Tw K s) (hn : (nums s.ps).Nodup) (n k : Int) : Tw K (giveOut s n k).1 := by
  unfold giveOut
  cases hg : getP s.ps n with
  | none => exact h
  | some X =>
    dsimp only
    split
    · exact h
    · split
      · unfold Tw at h ⊢
        dsimp only
        have := len_del hn (mem_nums (get_mem hg))
        rw [List.length_cons]
        omega
      · unfold Tw at h ⊢
        dsimp only
        rw [len_set]
        exact h
theorem Tw.own (h : Tw K s) (n k o : Int) : Tw K (ownOut s n k o).1 := by
  unfold ownOut
  cases hg : getP s.ps n with
  | none => exact h
  | some X =>
    unfold Tw at h ⊢
    dsimp only
    rw [len_set]
    exact h
theorem Tw.new (K : Nat) : Tw K ⟨Pl.freed K, Pl.turns K, [], []⟩ := by
  unfold Tw
  simp [Pl.turns_len]
/-- The numbers that ShelfPages tells. -/
theorem tight (h : Sw K c B s) (hu : Uw s) (hB : 1 ≤ B) (hB4 : B ≤ 4) :
    ((usedS s.ps + B - 1) / B ≤ s.ps.length ∧ s.ps.length ≤ (usedS s.ps + B - 1) / B + (s.op.length - 1)) ∧ (s.op.length = 0 ↔ s.ps.length * B = usedS s.ps) ∧ s.ps.length ≤ usedS s.ps ∧ s.op.length ≤ s.ps.length := by
  have h1 := most h.len
  have h2 := least h.len hu
  have h3 := each hu
  have h4 := h.openN
  have h5 : Sh.openN s.ps ≤ s.ps.length := open_le
  rw [← h4] at h1 h2 h5
  generalize s.ps.length = P at *
  generalize s.op.length = o at *
  generalize usedS s.ps = U at *
  rcases (by omega : B = 1 ∨ B = 2 ∨ B = 3 ∨ B = 4) with rfl | rfl | rfl | rfl <;> omega
end
end Go.Proofs.Ytfkegbipfekbdaa.Sh
/-
  How many pages of a plain shelf are open behind Take and Give: a page that was full, and has one hole, is the first one, and the next block that is taken fills it. No statement about a Go function.
-/
namespace Go.Proofs.Ytfkegbipfekbdaa.Sh
open Pg (holeOf topOf usedN ow giveX giveE takeX)

section
variable {K B : Nat} {c o n i : Int} {s : Shl} {X : List Int}
/-- A block more is taken: no more open pages, or the first one. -/
theorem take_op : (takeOut c B s o).1.op.length ≤ s.op.length ∨ (s.op = [] ∧ (takeOut c B s o).1.op.length ≤ 1) := by
  unfold takeOut
  split
  · exact .inl (Nat.le_refl _)
  · split
    · exact .inl (Nat.le_refl _)
    · by_cases ho : s.op = []
      · right
        refine ⟨ho, ?_⟩
        simp only [if_pos ho]
        have hg : (growS c B s).op.length ≤ 1 := by
          unfold growS
          split
          · rw [ho]; simp
          · rw [ho]; simp
        show (if _ then _ else _ : List Int).length ≤ 1
        split
        · have := List.length_erase_le (a := ((growS c B s).op.headD (-1))) (l := (growS c B s).op)
          omega
        · exact hg
      · left
        simp only [if_neg ho]
        show (if _ then _ else _ : List Int).length ≤ _
        split
        · exact List.length_erase_le
        · exact Nat.le_refl _
/-- The first open page has one hole: it is filled. -/
theorem take_fills (h : Sw K c B s) {r : List Int} (hop : s.op = n :: r) (hX : (n, X) ∈ s.ps) (h1 : usedN X + 1 = X.length) (h0 : 0 ≤ o) (h2 : o ≤ 9223372036854775807) : (takeOut c B s o).1.op = r ∧ (takeOut c B s o).2.1 = n ∧ (takeOut c B s o).2.2.2 = 0 := by
  have hne : s.op ≠ [] := by rw [hop]; simp
  have hhole : holeOf X ≠ -1 := fun q => by have := hole_eq q; omega
  obtain ⟨k, hk, hkl⟩ : ∃ k : Nat, holeOf X = (k : Int) ∧ k < X.length := by
    rcases Pg.hole_cases X with ⟨q, _⟩ | ⟨k, q1, q2, _⟩
    · exact absurd q hhole
    · exact ⟨k, q1, q2⟩
  have hfree : ow X k = -1 := by
    rcases Pg.hole_cases X with ⟨q, _⟩ | ⟨j, q, q1, q2, _⟩
    · omega
    · have : j = k := by omega
      subst this
      exact q2
  have ht := (Pg.take_at h0 hk).1
  have hfull : holeOf (takeX X o) = -1 := by
    rw [ht]
    refine (Pg.full_iff _).1 ?_
    have := Pg.usedN_fill hkl hfree h0
    rw [List.length_set]
    omega
  have ep : pageAt s n = X := by unfold pageAt; rw [mem_get h.nod hX]; rfl
  have eh : s.op.headD (-1) = n := by rw [hop]; rfl
  unfold takeOut
  rw [if_neg (by omega), if_neg (fun q => hne q.1), if_neg hne]
  refine ⟨?_, eh, rfl⟩
  show (fillS s (s.op.headD (-1)) o (pageAt s (s.op.headD (-1)))).op = r
  rw [eh, ep]
  unfold fillS
  simp only [hfull]
  rw [if_pos trivial, hop, List.erase_cons_head]
/-- A block is given back: no more open pages; or its page, that was full, is the first one, and has one hole. -/
theorem give_op (he : (giveOut s n i).2 = 0) : (giveOut s n i).1.op.length ≤ s.op.length ∨ ((giveOut s n i).1.op = n :: s.op ∧ ∃ Y, (n, Y) ∈ (giveOut s n i).1.ps ∧ usedN Y + 1 = Y.length) := by
  unfold giveOut at he ⊢
  split at he
  · simp at he
  · rename_i X hX
    have hm := get_mem hX
    simp only at he ⊢
    by_cases hg : giveE X i ≠ 0
    · rw [if_pos hg] at he
      exact absurd he hg
    · rw [if_neg hg]
      have hg0 : giveE X i = 0 := by omega
      obtain ⟨j, hj, hjl, how⟩ : ∃ j : Nat, i = (j : Int) ∧ j < X.length ∧ ow X j ≠ -1 := by
        unfold Pg.giveE at hg0
        split at hg0
        · omega
        · rename_i hin
          split at hg0
          · omega
          · rename_i how
            simp only [Bool.not_eq_false] at hin
            have := hin
            unfold Pg.inP at this
            simp at this
            exact ⟨i.toNat, by omega, by omega, how⟩
      subst hj
      have hx := (Pg.give_at hjl how).1
      have hu : usedN (giveX X (j : Int)) + 1 = usedN X := by rw [hx]; exact Pg.usedN_free hjl how
      have hl : (giveX X (j : Int)).length = X.length := by rw [hx, List.length_set]
      by_cases hh : holeOf X = -1
      · have hfull := hole_eq hh
        simp only [if_pos hh]
        by_cases h0 : usedN (giveX X (j : Int)) = 0
        · left
          rw [if_pos h0]
          show ((n :: s.op).erase n).length ≤ _
          rw [List.erase_cons_head]
          exact Nat.le_refl _
        · right
          rw [if_neg h0]
          exact ⟨rfl, _, mem_set.2 (Or.inl ⟨rfl, rfl, mem_nums hm⟩), by omega⟩
      · left
        simp only [if_neg hh]
        by_cases h0 : usedN (giveX X (j : Int)) = 0
        · rw [if_pos h0]
          exact List.length_erase_le
        · rw [if_neg h0]
          exact Nat.le_refl _
end
end Go.Proofs.Ytfkegbipfekbdaa.Sh
