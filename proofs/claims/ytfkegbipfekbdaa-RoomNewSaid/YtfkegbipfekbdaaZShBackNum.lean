import Derived.Test.YtfkegbipfekbdaaZShGive
/-
  A block that is taken, and given back: what is left of a plain shelf. No statement about a Go function.
-/
namespace Go.Proofs.Ytfkegbipfekbdaa.Sh
open Go.ChangeShapes Go.WideShapes Go.ChangeAt Go.RowKit
open Pg (holeOf topOf usedN ow ownerOf)
set_option maxRecDepth 100000

section
variable {K B : Nat} {c : Int} {s t : Shl} {n o : Int} {X : List Int} {i : Nat}
/-- Page n's first free block is taken, and given back. -/
theorem fill_give (h : Sw K c B t) (hX : (n, X) ∈ t.ps) (hi : holeOf X = (i : Int)) (h0 : 0 ≤ o) (h1 : o ≤ 9223372036854775807) (hu : ∀ m Z, (m, Z) ∈ t.ps → m ≠ n → 1 ≤ usedN Z) :
    ownerS (fillS t n o X) n (i : Int) = o ∧ ∃ s2, giveOut (fillS t n o X) n (i : Int) = (s2, 0) ∧ ownerS s2 n (i : Int) = -1 ∧ usedS s2.ps = usedS t.ps ∧
      (usedN X = 0 → s2.ps.length + 1 = t.ps.length ∧ s2.op.length + 1 = t.op.length) ∧ (usedN X ≠ 0 → s2.ps.length = t.ps.length ∧ s2.op.length = t.op.length) := by
  have hlt : i < X.length ∧ ow X i = -1 := by
    rcases Pg.hole_cases X with ⟨q, _⟩ | ⟨j, q, q1, q2, _⟩
    · omega
    · have : j = i := by omega
      subst this
      exact ⟨q1, q2⟩
  have hop : n ∈ t.op := (h.here hX).2 (by omega)
  obtain ⟨f1, f2, f3⟩ := h.fill hX hi h0 h1 hu
  have eX := (Pg.take_at h0 hi).1
  have hl : i < (X.set i o).length := by rw [List.length_set]; exact hlt.1
  have ho : ow (X.set i o) i = o := by rw [Pg.ow_set hlt.1, if_pos rfl]
  have hne : ow (X.set i o) i ≠ -1 := by rw [ho]; omega
  have hF : (n, X.set i o) ∈ (fillS t n o X).ps := by
    unfold fillS
    rw [eX]
    exact mem_set.2 (Or.inl ⟨rfl, rfl, mem_nums hX⟩)
  have gF := mem_get f1.nod hF
  have hs : (X.set i o).set i (-1) = X := by
    rw [List.set_set]
    apply List.ext_getElem?
    intro j
    by_cases q : i = j
    · subst q
      rw [List.getElem?_set_self hlt.1]
      have := hlt.2
      unfold ow at this
      rw [List.getElem?_eq_getElem hlt.1] at this ⊢
      simpa using this.symm
    · rw [List.getElem?_set_ne q]
  refine ⟨by unfold ownerS; rw [gF]; exact (Pg.ownerOf_nat hl).trans ho, ?_⟩
  have eo : (fillS t n o X).op = if holeOf (X.set i o) = -1 then t.op.erase n else t.op := by unfold fillS; rw [eX]
  have ep : (fillS t n o X).ps = setP t.ps n (X.set i o) := by unfold fillS; rw [eX]
  have el : (if holeOf (X.set i o) = -1 then n :: (fillS t n o X).op else (fillS t n o X).op).length = t.op.length ∧ n ∈ (if holeOf (X.set i o) = -1 then n :: (fillS t n o X).op else (fillS t n o X).op) := by
    rw [eo]
    split
    · have := List.length_erase_of_mem hop
      have := List.length_pos_of_mem hop
      exact ⟨by rw [List.length_cons]; omega, List.mem_cons_self⟩
    · exact ⟨rfl, hop⟩
  generalize hq : (if holeOf (X.set i o) = -1 then n :: (fillS t n o X).op else (fillS t n o X).op) = op at el
  unfold giveOut
  rw [gF]
  dsimp only
  rw [(Pg.give_at hl hne).1, (Pg.give_at hl hne).2, if_neg (by simp), hs, hq]
  have hu1 := used_set h.nod hX (Y := X.set i o)
  rw [Pg.usedN_fill hlt.1 hlt.2 h0] at hu1
  split
  · rename_i hz
    refine ⟨_, rfl, ?_, ?_, fun _ => ⟨?_, ?_⟩, fun q => absurd hz q⟩
    · have : getP (delP (fillS t n o X).ps n) n = none := get_none.2 (by rw [nums_del]; simp)
      unfold ownerS
      rw [this]
    · have := used_del f1.nod hF
      rw [Pg.usedN_fill hlt.1 hlt.2 h0] at this
      show usedS (delP (fillS t n o X).ps n) = _
      omega
    · have := len_del f1.nod (mem_nums hF)
      show (delP (fillS t n o X).ps n).length + 1 = _
      rw [this, ep, len_set]
    · have := List.length_erase_of_mem el.2
      have := List.length_pos_of_mem el.2
      show (op.erase n).length + 1 = _
      omega
  · rename_i hz
    refine ⟨_, rfl, ?_, ?_, fun q => absurd q hz, fun _ => ⟨?_, el.1⟩⟩
    · have hm : (n, X) ∈ setP (fillS t n o X).ps n X := mem_set.2 (Or.inl ⟨rfl, rfl, mem_nums hF⟩)
      have : getP (setP (fillS t n o X).ps n X) n = some X := mem_get (by rw [nums_set]; exact f1.nod) hm
      unfold ownerS
      rw [this]
      exact (Pg.ownerOf_nat hlt.1).trans hlt.2
    · have := used_set f1.nod hF (Y := X)
      rw [Pg.usedN_fill hlt.1 hlt.2 h0] at this
      show usedS (setP (fillS t n o X).ps n X) = _
      omega
    · show (setP (fillS t n o X).ps n X).length = _
      rw [len_set, ep, len_set]
/-- What a block taken, and given back, comes to. -/
structure Bk (c : Int) (B : Nat) (s : Shl) (o n i : Int) (s1 s2 : Shl) : Prop where
  take : takeOut c B s o = (s1, n, i, 0)
  own : ownerS s1 n i = o
  give : giveOut s1 n i = (s2, 0)
  free : ownerS s2 n i = -1
  pages : s2.ps.length = s.ps.length
  opens : s2.op.length = s.op.length
  used : usedS s2.ps = usedS s.ps
  fn : Pl.Fit n
  fi : Pl.Fit i
theorem backs (h : Sw K c B s) (hu : Uw s) (hK : K ≤ 1024) (hB1 : 1 ≤ B) (hB : B ≤ 512) (h0 : 0 ≤ o) (h1 : o ≤ 9223372036854775807) (hne : ¬ (s.op = [] ∧ s.fl = [])) : ∃ n i s1 s2, Bk c B s o n i s1 s2 := by
  by_cases ho : s.op = []
  · obtain ⟨k, r, hf⟩ : ∃ (k : Nat) (r : List Int), s.fl = (k : Int) :: r := by
      cases q : s.fl with
      | nil => exact absurd ⟨ho, q⟩ hne
      | cons z r =>
        obtain ⟨k, e, _⟩ := h.pool.free z (by rw [q]; exact List.mem_cons_self)
        exact ⟨k, r, by rw [e]⟩
    obtain ⟨no, kl, sw⟩ := h.grow hf hB1
    have eg : growS c B s = ⟨s.O.set k c, r, s.ps ++ [((k : Int), List.replicate B (-1))], (k : Int) :: s.op⟩ := by unfold growS; rw [hf]; rfl
    have hi : holeOf (List.replicate B (-1)) = ((0 : Nat) : Int) := Pg.hole_at (by rw [List.length_replicate]; omega) (by unfold ow; rw [List.getElem?_replicate]; split <;> rfl) (fun j hj => by omega)
    have hX : ((k : Int), List.replicate B (-1)) ∈ s.ps ++ [((k : Int), List.replicate B (-1))] := List.mem_append_right _ (by simp)
    have z0 : usedN (List.replicate B (-1)) = 0 := by
      unfold usedN Pg.usedL
      rw [List.map_replicate, List.count_replicate]
      simp
    obtain ⟨q1, s2, q2, q3, q4, q5, _⟩ := fill_give sw hX hi h0 h1 (fun m Z hm hn => by
      rcases List.mem_append.1 hm with q | q
      · exact hu m Z q
      · simp at q
        exact absurd q.1 hn)
    obtain ⟨q6, q7⟩ := q5 z0
    refine ⟨(k : Int), ((0 : Nat) : Int), _, s2, ?_, q1, q2, q3, ?_, ?_, ?_, ⟨by omega, by omega⟩, ⟨by omega, by omega⟩⟩
    · unfold takeOut
      rw [if_neg (by omega), if_neg hne, if_pos ho, eg]
      have ep : pageAt ⟨s.O.set k c, r, s.ps ++ [((k : Int), List.replicate B (-1))], (k : Int) :: s.op⟩ (k : Int) = List.replicate B (-1) := by
        unfold pageAt
        rw [mem_get sw.nod hX]
        rfl
      show (fillS _ (k : Int) o (pageAt _ (k : Int)), (k : Int), Pg.takeA (pageAt _ (k : Int)) o, (0 : Int)) = _
      rw [ep, (Pg.take_at h0 hi).2.1]
    · have : (s.ps ++ [((k : Int), List.replicate B (-1))]).length = s.ps.length + 1 := by simp
      have q6' : s2.ps.length + 1 = (s.ps ++ [((k : Int), List.replicate B (-1))]).length := q6
      omega
    · have q7' : s2.op.length + 1 = ((k : Int) :: s.op).length := q7
      rw [List.length_cons] at q7'
      omega
    · have q4' : usedS s2.ps = usedS (s.ps ++ [((k : Int), List.replicate B (-1))]) := q4
      rw [q4', used_app, z0, Nat.add_zero]
  · obtain ⟨n, r, er⟩ : ∃ n r, s.op = n :: r := by
      cases q : s.op with
      | nil => exact absurd q ho
      | cons t r => exact ⟨t, r, rfl⟩
    have hno : n ∈ s.op := by rw [er]; exact List.mem_cons_self
    obtain ⟨X, hX, hh⟩ := (h.opm n).1 hno
    obtain ⟨i, hi, il⟩ : ∃ i : Nat, holeOf X = (i : Int) ∧ i < X.length := by
      rcases Pg.hole_cases X with ⟨q, _⟩ | ⟨i, q1, q2, _⟩
      · exact absurd q hh
      · exact ⟨i, q1, q2⟩
    obtain ⟨k, ek, kl, _⟩ := h.own n (mem_nums hX)
    have lX := h.len n X hX
    obtain ⟨q1, s2, q2, q3, q4, _, q5⟩ := fill_give h hX hi h0 h1 (fun m Z hm _ => hu m Z hm)
    have u1 := hu n X hX
    obtain ⟨q6, q7⟩ := q5 (by omega)
    refine ⟨n, (i : Int), _, s2, ?_, q1, q2, q3, q6, q7, q4, ⟨by omega, by omega⟩, ⟨by omega, by omega⟩⟩
    unfold takeOut
    rw [if_neg (by omega), if_neg hne, if_neg ho]
    have ep : pageAt s n = X := by unfold pageAt; rw [mem_get h.nod hX]; rfl
    have eh : s.op.headD (-1) = n := by rw [er]; rfl
    show (fillS s (s.op.headD (-1)) o (pageAt s (s.op.headD (-1))), s.op.headD (-1), Pg.takeA (pageAt s (s.op.headD (-1))) o, (0 : Int)) = _
    rw [eh, ep, (Pg.take_at h0 hi).2.1]
end
end Go.Proofs.Ytfkegbipfekbdaa.Sh
