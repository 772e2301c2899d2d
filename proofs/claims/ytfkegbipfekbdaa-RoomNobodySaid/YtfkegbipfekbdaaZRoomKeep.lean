import Derived.Test.YtfkegbipfekbdaaZShOpenNum
import Derived.Test.YtfkegbipfekbdaaZRoomBack
/-
  Whose a plain shelf's blocks are, behind Take, Give and Own: one block's owner turns, all others' stay. No statement about a Go function.
-/
namespace Go.Proofs.Ytfkegbipfekbdaa.Sh
open Pg (holeOf topOf usedN ow giveX giveE takeX takeA ownX ownE ownerOf inP)

section
variable {ps : Ps} {n m : Int} {X Y : List Int}
theorem getP_set_same (h : n ∈ nums ps) : getP (setP ps n Y) n = some Y := by
  induction ps with
  | nil => simp [nums] at h
  | cons q r ih =>
    obtain ⟨k, Z⟩ := q
    by_cases e : k = n
    · subst e
      simp [setP, getP]
    · rw [set_cons_other e]
      unfold getP
      rw [if_neg e]
      refine ih ?_
      rcases List.mem_cons.1 h with z | z
      · exact absurd z.symm e
      · exact z
theorem getP_set_other (h : m ≠ n) : getP (setP ps n Y) m = getP ps m := by
  induction ps with
  | nil => rfl
  | cons q r ih =>
    obtain ⟨k, Z⟩ := q
    have e1 : setP ((k, Z) :: r) n Y = (if k = n then (n, Y) else (k, Z)) :: setP r n Y := by simp [setP]
    rw [e1]
    by_cases e : k = n
    · subst e
      rw [if_pos rfl]
      unfold getP
      rw [if_neg (Ne.symm h), if_neg (Ne.symm h), ih]
    · rw [if_neg e]
      unfold getP
      rw [ih]
theorem getP_del_other (h : m ≠ n) : getP (delP ps n) m = getP ps m := by
  induction ps with
  | nil => rfl
  | cons q r ih =>
    obtain ⟨k, Z⟩ := q
    by_cases e : k = n
    · subst e
      have e1 : delP ((k, Z) :: r) k = delP r k := by simp [delP]
      rw [e1, ih]
      conv => rhs; unfold getP
      rw [if_neg (Ne.symm h)]
    · rw [del_cons_other e]
      unfold getP
      rw [ih]
theorem getP_del_same : getP (delP ps n) n = none := get_none.2 (by rw [nums_del, List.mem_filter]; simp)
theorem getP_app_other (h : m ≠ n) : getP (ps ++ [(n, X)]) m = getP ps m := by
  induction ps with
  | nil => simp [getP, Ne.symm h]
  | cons q r ih =>
    obtain ⟨k, Z⟩ := q
    rw [List.cons_append]
    unfold getP
    rw [ih]
theorem getP_app_same (h : n ∉ nums ps) : getP (ps ++ [(n, X)]) n = some X := by
  induction ps with
  | nil => simp [getP]
  | cons q r ih =>
    obtain ⟨k, Z⟩ := q
    rw [List.cons_append]
    unfold getP
    have hk : ¬ k = n := fun e => h (by subst e; exact List.mem_cons_self)
    rw [if_neg hk]
    exact ih fun z => h (List.mem_cons_of_mem _ z)
end
theorem ownerOf_set {X : List Int} {j : Nat} {v i : Int} (hj : j < X.length) : ownerOf (X.set j v) i = if i = (j : Int) then v else ownerOf X i := by
  unfold ownerOf
  have e : inP (X.set j v) i = inP X i := by simp [inP]
  rw [e]
  by_cases h : inP X i = true
  · rw [if_pos h, if_pos h]
    have hi : 0 ≤ i := by unfold inP at h; simp at h; omega
    rw [Pg.ow_set hj]
    by_cases q : i = (j : Int)
    · rw [if_pos q, if_pos (by omega)]
    · rw [if_neg q, if_neg (by omega)]
  · rw [if_neg h, if_neg h]
    by_cases q : i = (j : Int)
    · subst q
      exact absurd (Pg.inP_nat hj) h
    · rw [if_neg q]
theorem ownerOf_free (B : Nat) (i : Int) : ownerOf (List.replicate B (-1)) i = -1 := by
  unfold ownerOf
  split
  · unfold ow
    rw [List.getElem?_replicate]
    split <;> rfl
  · rfl
section
variable {K B : Nat} {c o n i : Int} {s t : Shl} {X : List Int}
theorem owner_set (hn : n ∈ nums s.ps) {Y : List Int} {O fl op : List Int} (m j : Int) : ownerS ⟨O, fl, setP s.ps n Y, op⟩ m j = if m = n then ownerOf Y j else ownerS s m j := by
  unfold ownerS
  by_cases e : m = n
  · subst e
    simp only [getP_set_same hn]
    rw [if_pos trivial]
  · simp only [getP_set_other e]
    rw [if_neg e]
/-- Own. -/
theorem owner_own (he : (ownOut s n i o).2 = 0) : ownerS s n i ≠ -1 ∧ ∀ m j, ownerS (ownOut s n i o).1 m j = if m = n ∧ j = i then o else ownerS s m j := by
  unfold ownOut at he ⊢
  split at he
  · simp at he
  · rename_i X hX
    have hm := get_mem hX
    simp only at he ⊢
    unfold Pg.ownE at he
    split at he
    · omega
    · rename_i h1
      split at he
      · omega
      · rename_i h2
        have hin : inP X i = true := by
          cases q : inP X i with
          | true => rfl
          | false => exact absurd (Or.inl q) h1
        obtain ⟨k, hk, hkl⟩ : ∃ k : Nat, i = (k : Int) ∧ k < X.length := by
          unfold inP at hin
          simp at hin
          exact ⟨i.toNat, by omega, by omega⟩
        subst hk
        have ho : 0 ≤ o := by
          by_cases q : o < 0
          · exact absurd (Or.inr q) h1
          · omega
        have how : ow X k ≠ -1 := by simpa using h2
        have ex := (Pg.own_at hkl ho how).1
        refine ⟨?_, fun m j => ?_⟩
        · unfold ownerS
          rw [hX]
          show ownerOf X (k : Int) ≠ -1
          rw [Pg.ownerOf_nat hkl]
          exact how
        · rw [owner_set (mem_nums hm), ex, ownerOf_set hkl]
          by_cases e : m = n
          · subst e
            rw [if_pos rfl]
            by_cases e2 : j = (k : Int)
            · rw [if_pos e2, if_pos ⟨rfl, e2⟩]
            · rw [if_neg e2, if_neg (fun z => e2 z.2)]
              unfold ownerS
              rw [hX]
          · rw [if_neg e, if_neg (fun z => e z.1)]
/-- Give. -/
theorem owner_give (he : (giveOut s n i).2 = 0) : ownerS s n i ≠ -1 ∧ ∀ m j, ownerS (giveOut s n i).1 m j = if m = n ∧ j = i then -1 else ownerS s m j := by
  unfold giveOut at he ⊢
  split at he
  · simp at he
  · rename_i X hX
    have hm := get_mem hX
    simp only at he ⊢
    by_cases hg : giveE X i ≠ 0
    · rw [if_pos hg] at he
      exact absurd he hg
    · rw [if_neg hg]
      have hg0 : giveE X i = 0 := by omega
      obtain ⟨k, hk, hkl, how⟩ : ∃ k : Nat, i = (k : Int) ∧ k < X.length ∧ ow X k ≠ -1 := by
        unfold Pg.giveE at hg0
        split at hg0
        · omega
        · rename_i hin
          split at hg0
          · omega
          · rename_i how
            simp only [Bool.not_eq_false] at hin
            have := hin
            unfold inP at this
            simp at this
            exact ⟨i.toNat, by omega, by omega, how⟩
      subst hk
      have hx := (Pg.give_at hkl how).1
      have ownX0 : ∀ j, ownerS s n j = ownerOf X j := fun j => by unfold ownerS; rw [hX]
      have hne : ownerS s n (k : Int) ≠ -1 := by rw [ownX0, Pg.ownerOf_nat hkl]; exact how
      refine ⟨hne, fun m j => ?_⟩
      by_cases h0 : usedN (giveX X (k : Int)) = 0
      · rw [if_pos h0]
        show ownerS ⟨_, _, delP s.ps n, _⟩ m j = _
        by_cases e : m = n
        · subst e
          have e1 : ownerS ⟨s.O.set m.toNat (-1), m :: s.fl, delP s.ps m, (if holeOf X = -1 then m :: s.op else s.op).erase m⟩ m j = -1 := by
            unfold ownerS
            simp only [getP_del_same]
          rw [e1]
          by_cases e2 : j = (k : Int)
          · rw [if_pos ⟨rfl, e2⟩]
          · rw [if_neg (fun z => e2 z.2), ownX0]
            rw [hx] at h0
            have e3 : ownerOf (X.set k (-1)) j = -1 := by
              unfold ownerOf
              split
              · by_cases q : ow (X.set k (-1)) j.toNat = -1
                · exact q
                · rename_i hin
                  unfold inP at hin
                  simp at hin
                  have hu := Pg.usedN_free (X := X.set k (-1)) (k := j.toNat) (by rw [List.length_set]; omega) q
                  omega
              · rfl
            rw [ownerOf_set hkl, if_neg e2] at e3
            exact e3.symm
        · refine Eq.trans (b := ownerS s m j) ?_ (if_neg (fun z => e z.1)).symm
          unfold ownerS
          simp only [getP_del_other e]
      · rw [if_neg h0]
        show ownerS ⟨_, _, setP s.ps n _, _⟩ m j = _
        rw [owner_set (mem_nums hm), hx, ownerOf_set hkl]
        by_cases e : m = n
        · subst e
          rw [if_pos rfl]
          by_cases e2 : j = (k : Int)
          · rw [if_pos e2, if_pos ⟨rfl, e2⟩]
          · rw [if_neg e2, if_neg (fun z => e2 z.2), ownX0]
        · rw [if_neg e, if_neg (fun z => e z.1)]
/-- Take. -/
theorem owner_take (h : Sw K c B s) (hB1 : 1 ≤ B) (h0 : 0 ≤ o) (he : (takeOut c B s o).2.2.2 = 0) :
    ownerS s (takeOut c B s o).2.1 (takeOut c B s o).2.2.1 = -1 ∧ ∀ m j, ownerS (takeOut c B s o).1 m j = if m = (takeOut c B s o).2.1 ∧ j = (takeOut c B s o).2.2.1 then o else ownerS s m j := by
  have fillo : ∀ {t : Shl} {n : Int} {X : List Int} {k : Nat}, n ∈ nums t.ps → (∀ j, ownerS t n j = ownerOf X j) → holeOf X = (k : Int) → (∀ m j, ownerS (fillS t n o X) m j = if m = n ∧ j = (k : Int) then o else ownerS t m j) ∧ ownerOf X (k : Int) = -1 := by
    intro t n X k hn hX hk
    obtain ⟨hkl, hfree⟩ : k < X.length ∧ ow X k = -1 := by
      rcases Pg.hole_cases X with ⟨q, _⟩ | ⟨j, q, q1, q2, _⟩
      · omega
      · have : j = k := by omega
        subst this
        exact ⟨q1, q2⟩
    refine ⟨fun m j => ?_, (Pg.ownerOf_nat hkl).trans hfree⟩
    unfold fillS
    rw [owner_set hn, (Pg.take_at h0 hk).1, ownerOf_set hkl]
    by_cases e : m = n
    · subst e
      rw [if_pos rfl]
      by_cases e2 : j = (k : Int)
      · rw [if_pos e2, if_pos ⟨rfl, e2⟩]
      · rw [if_neg e2, if_neg (fun z => e2 z.2), hX]
    · rw [if_neg e, if_neg (fun z => e z.1)]
  by_cases hne : s.op = [] ∧ s.fl = []
  · exfalso
    unfold takeOut at he
    rw [if_neg (by omega), if_pos hne] at he
    simp at he
  · by_cases ho : s.op = []
    · obtain ⟨k, r, hf⟩ : ∃ (k : Nat) (r : List Int), s.fl = (k : Int) :: r := by
        cases q : s.fl with
        | nil => exact absurd ⟨ho, q⟩ hne
        | cons z r =>
          obtain ⟨k, e, _⟩ := h.pool.free z (by rw [q]; exact List.mem_cons_self)
          exact ⟨k, r, by rw [e]⟩
      obtain ⟨no, kl, sw⟩ := h.grow hf hB1
      have eg : growS c B s = ⟨s.O.set k c, r, s.ps ++ [((k : Int), List.replicate B (-1))], (k : Int) :: s.op⟩ := by unfold growS; rw [hf]; rfl
      have hi : holeOf (List.replicate B (-1)) = ((0 : Nat) : Int) := Pg.hole_at (by rw [List.length_replicate]; omega) (by unfold ow; rw [List.getElem?_replicate]; split <;> rfl) (fun j hj => by omega)
      have ep : pageAt ⟨s.O.set k c, r, s.ps ++ [((k : Int), List.replicate B (-1))], (k : Int) :: s.op⟩ (k : Int) = List.replicate B (-1) := by
        unfold pageAt
        simp only [getP_app_same no]
        rfl
      have et : takeOut c B s o = (fillS ⟨s.O.set k c, r, s.ps ++ [((k : Int), List.replicate B (-1))], (k : Int) :: s.op⟩ (k : Int) o (List.replicate B (-1)), (k : Int), ((0 : Nat) : Int), 0) := by
        unfold takeOut
        rw [if_neg (by omega), if_neg hne, if_pos ho, eg]
        show (fillS _ (k : Int) o (pageAt _ (k : Int)), (k : Int), Pg.takeA (pageAt _ (k : Int)) o, (0 : Int)) = _
        rw [ep, (Pg.take_at h0 hi).2.1]
      rw [et]
      have hX : ∀ j, ownerS ⟨s.O.set k c, r, s.ps ++ [((k : Int), List.replicate B (-1))], (k : Int) :: s.op⟩ (k : Int) j = ownerOf (List.replicate B (-1)) j := fun j => by
        unfold ownerS
        simp only [getP_app_same no]
      obtain ⟨f1, _⟩ := fillo (by simp [nums]) hX hi
      have hs : ∀ j, ownerS s (k : Int) j = -1 := fun j => by
        unfold ownerS
        rw [get_none.2 no]
      refine ⟨hs _, fun m j => ?_⟩
      rw [f1]
      by_cases e : m = (k : Int) ∧ j = ((0 : Nat) : Int)
      · rw [if_pos e, if_pos e]
      · rw [if_neg e, if_neg e]
        by_cases e2 : m = (k : Int)
        · subst e2
          rw [hX, hs, ownerOf_free]
        · unfold ownerS
          simp only [getP_app_other e2]
    · obtain ⟨n, r, er⟩ : ∃ n r, s.op = n :: r := by
        cases q : s.op with
        | nil => exact absurd q ho
        | cons t r => exact ⟨t, r, rfl⟩
      obtain ⟨X, hX, hh⟩ := (h.opm n).1 (by rw [er]; exact List.mem_cons_self)
      obtain ⟨k, hk⟩ : ∃ k : Nat, holeOf X = (k : Int) := by
        rcases Pg.hole_cases X with ⟨q, _⟩ | ⟨k, q1, _⟩
        · exact absurd q hh
        · exact ⟨k, q1⟩
      have gX := mem_get h.nod hX
      have ep : pageAt s n = X := by unfold pageAt; rw [gX]; rfl
      have eh : s.op.headD (-1) = n := by rw [er]; rfl
      have et : takeOut c B s o = (fillS s n o X, n, (k : Int), 0) := by
        unfold takeOut
        rw [if_neg (by omega), if_neg hne, if_neg ho]
        show (fillS s (s.op.headD (-1)) o (pageAt s (s.op.headD (-1))), s.op.headD (-1), Pg.takeA (pageAt s (s.op.headD (-1))) o, (0 : Int)) = _
        rw [eh, ep, (Pg.take_at h0 hk).2.1]
      rw [et]
      have hXo : ∀ j, ownerS s n j = ownerOf X j := fun j => by unfold ownerS; rw [gX]
      obtain ⟨f1, f2⟩ := fillo (mem_nums hX) hXo hk
      exact ⟨by rw [hXo]; exact f2, f1⟩
end
end Go.Proofs.Ytfkegbipfekbdaa.Sh
/-
  What a plain room keeps to is kept by Take, Give, Own, Place and Drop. No statement about a Go function.
-/
namespace Go.Proofs.Ytfkegbipfekbdaa.Room
open Sh (Shl Ps Sw Uw nums getP setP delP usedS takeOut giveOut ownOut ownerS planS growS fillS pageAt mem_nums mem_set mem_del nums_set)
open Pl (Pw)
open Pg (usedN holeOf ow)

section
variable {K B : Nat} {c o n i : Int} {s : Shl}
/-- A block that is given: it had an owner. -/
theorem giveE_at {X : List Int} (h : Pg.giveE X i = 0) : ∃ k : Nat, i = (k : Int) ∧ k < X.length ∧ ow X k ≠ -1 := by
  unfold Pg.giveE at h
  split at h
  · omega
  · rename_i hin
    split at h
    · omega
    · rename_i how
      simp only [Bool.not_eq_false] at hin
      have := hin
      unfold Pg.inP at this
      simp at this
      exact ⟨i.toNat, by omega, by omega, how⟩
/-- Give keeps what a shelf keeps to. -/
theorem give_sw (h : Sw K c B s) (hu : Uw s) : Sw K c B (giveOut s n i).1 ∧ Uw (giveOut s n i).1 := by
  unfold giveOut
  split
  · exact ⟨h, hu⟩
  · rename_i X hX
    have hm := Sh.get_mem hX
    by_cases hg : Pg.giveE X i ≠ 0
    · rw [if_pos hg]
      exact ⟨h, hu⟩
    · rw [if_neg hg]
      obtain ⟨k, hk, hkl, how⟩ := giveE_at (show Pg.giveE X i = 0 by omega)
      obtain ⟨k', ek, _, _⟩ := h.own n (mem_nums hm)
      subst hk ek
      obtain ⟨g1, g2, g3⟩ := h.gave hm hkl how
      rw [(Pg.give_at hkl how).1]
      by_cases h0 : usedN (X.set k (-1)) = 0
      · simp only [if_pos h0]
        have hb := g1.back (k := k') (by simp only [nums_set]; exact mem_nums hm)
        simp only [Sh.del_set] at hb
        refine ⟨?_, fun m Z hZ => ?_⟩
        · rw [Int.toNat_natCast]
          exact hb
        · exact hu m Z (mem_del.1 hZ).2
      · simp only [if_neg h0]
        refine ⟨g1, fun m Z hZ => ?_⟩
        rcases mem_set.1 hZ with ⟨_, rfl, _⟩ | ⟨_, q⟩
        · omega
        · exact hu m Z q
/-- Own keeps what a shelf keeps to. -/
theorem own_sw (h : Sw K c B s) (hu : Uw s) (h1 : o ≤ 9223372036854775807) : Sw K c B (ownOut s n i o).1 ∧ Uw (ownOut s n i o).1 := by
  unfold ownOut
  split
  · exact ⟨h, hu⟩
  · rename_i X hX
    have hm := Sh.get_mem hX
    obtain ⟨e1, e2⟩ := Sh.own_keeps X i o
    refine ⟨h.turn hm ((Pg.own_len i o).trans (h.len _ _ hm)) ((h.pn _ _ hm).own i h1) h.opn (fun m => ?_), fun m Z hZ => ?_⟩
    · constructor
      · intro q
        by_cases e : m = n
        · subst e
          exact .inl ⟨rfl, fun z => ((h.here hm).1 q) (e2.1 z)⟩
        · exact .inr ⟨e, q⟩
      · rintro (⟨rfl, q⟩ | ⟨_, q⟩)
        · exact (h.here hm).2 (fun z => q (e2.2 z))
        · exact q
    · rcases mem_set.1 hZ with ⟨rfl, rfl, _⟩ | ⟨_, q⟩
      · rw [e1]
        exact hu _ _ hm
      · exact hu _ _ q
end

section
variable {K n : Nat} {B : Nat → Nat} {r : Rom} {k o m i : Int}
theorem isK_nat (hr : RWf K n B r) (h : isK r k = true) : ∃ j : Nat, k = (j : Int) ∧ j < n := by
  obtain ⟨a, b⟩ := isK_true.1 h
  rw [hr.len] at b
  exact ⟨k.toNat, by omega, by omega⟩
theorem RWf.takeR (hr : RWf K n B r) (hB : ∀ k, k < n → 1 ≤ B k) (k : Int) (ho : o ≤ 9223372036854775807) : RWf K n B (takeR B r k o).1 := by
  unfold Room.takeR
  by_cases hk : isK r k = true
  · rw [if_pos hk]
    obtain ⟨j, rfl, hj⟩ := isK_nat hr hk
    simp only [Int.toNat_natCast]
    obtain ⟨sw, uw⟩ := hr.each j hj
    split
    · obtain ⟨a, b⟩ := take_sw sw uw (hB j hj) o ho
      obtain ⟨t1, t2⟩ := take_spares (o := o) sw
      exact hr.with hj a b t1 t2
    · exact hr
  · rw [if_neg hk]
    exact hr
theorem RWf.giveR (hr : RWf K n B r) (k m i : Int) : RWf K n B (giveR r k m i).1 := by
  unfold Room.giveR
  by_cases hk : isK r k = true
  · rw [if_pos hk]
    obtain ⟨j, rfl, hj⟩ := isK_nat hr hk
    simp only [Int.toNat_natCast]
    obtain ⟨sw, uw⟩ := hr.each j hj
    split
    · obtain ⟨a, b⟩ := give_sw (n := m) (i := i) sw uw
      obtain ⟨t1, t2⟩ := give_spares (n := m) (at_ := i) sw
      exact hr.with hj a b t1 t2
    · exact hr
  · rw [if_neg hk]
    exact hr
theorem RWf.ownR (hr : RWf K n B r) (k m i : Int) (ho : o ≤ 9223372036854775807) : RWf K n B (ownR r k m i o).1 := by
  unfold Room.ownR
  by_cases hk : isK r k = true
  · rw [if_pos hk]
    obtain ⟨j, rfl, hj⟩ := isK_nat hr hk
    simp only [Int.toNat_natCast]
    obtain ⟨sw, uw⟩ := hr.each j hj
    split
    · obtain ⟨a, b⟩ := own_sw (n := m) (i := i) sw uw ho
      obtain ⟨t1, t2, t3⟩ := own_spares (n := m) (at_ := i) (o := o) (s := shelf r j)
      refine hr.put hj a b ?_ ?_
      · rw [t1]
        exact Spares.refl _ _
      · rw [t2, t3]
        rfl
    · exact hr
  · rw [if_neg hk]
    exact hr
theorem RWf.dropR (hr : RWf K n B r) (p : Pc) : RWf K n B (dropR r p).1 := by
  unfold Room.dropR
  split
  · exact hr.giveR _ _ _
  · split
    · rename_i h
      exact hr.go h.2
    · exact hr
end

section
variable {K : Nat} {r : Rom} {c : Cf} {o size : Int}
/-- What fits, and is large: its pages. -/
theorem fits_large (h : MayC c) (hf : fitsR c r size = 0) (hk : ¬ 0 ≤ pick c.xs size) : 2 ≤ allOf size c.size ∧ allOf size c.size ≤ (r.fl.length : Int) := by
  unfold fitsR at hf
  split at hf
  · rename_i ht
    obtain ⟨t1, t2⟩ := isT_true.1 ht
    have hb : small c < size := by
      by_cases q : small c < size
      · exact q
      · obtain ⟨k, _, e⟩ := h.pick_small t1 (show size ≤ small c by omega)
        omega
    have hl := h.large
    have ha : 2 ≤ allOf size c.size := by
      unfold allOf
      have := many_facts (n := size) (b := c.size) t1 (by omega)
      split <;> omega
    refine ⟨ha, ?_⟩
    by_cases q : (r.fl.length : Int) < allOf size c.size
    · rw [if_pos q] at hf
      omega
    · omega
  · omega
theorem RWf.placeR (hr : RWf K c.cn (blk c) r) (h : MayC c) (hcn : c.cn = c.xs.length) (ho : o ≤ 9223372036854775807) : RWf K c.cn (blk c) (placeR (blk c) c r o size).1 := by
  unfold Room.placeR
  split
  · exact hr
  · by_cases hf : fitsR c r size = 0
    · rw [if_neg (by simpa using hf)]
      by_cases hk : 0 ≤ pick c.xs size
      · rw [if_pos hk]
        exact hr.takeR (fun k hk => (blk_in h (show k < c.xs.length by omega)).1) _ ho
      · rw [if_neg hk]
        obtain ⟨a, b⟩ := fits_large h hf hk
        exact hr.lay (by have := h.few; omega) (by omega) (by omega)
    · rw [if_pos hf]
      exact hr
end
end Go.Proofs.Ytfkegbipfekbdaa.Room
