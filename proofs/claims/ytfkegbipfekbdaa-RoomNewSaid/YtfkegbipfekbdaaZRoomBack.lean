import Derived.Test.YtfkegbipfekbdaaZRoomNum
import Derived.Test.YtfkegbipfekbdaaZShBackNum
/-
  A plain room: what fits is placed; what was placed, and dropped, leaves as many pages as before; dropped twice it is refused. No statement about a Go function.
-/
namespace Go.Proofs.Ytfkegbipfekbdaa.Room
open Sh (Shl Ps Sw Uw nums getP setP delP usedS takeOut giveOut ownOut ownerS planS growS fillS pageAt mem_nums Bk backs)
open Pl (Pw)
open Pg (usedN holeOf)

section
variable {K B : Nat} {c o : Int} {s : Shl}
/-- Take keeps what a shelf keeps to. -/
theorem take_sw (h : Sw K c B s) (hu : Uw s) (hB1 : 1 ≤ B) (o : Int) (h1 : o ≤ 9223372036854775807) : Sw K c B (takeOut c B s o).1 ∧ Uw (takeOut c B s o).1 := by
  by_cases h0 : o < 0
  · unfold takeOut
    rw [if_pos h0]
    exact ⟨h, hu⟩
  · by_cases hne : s.op = [] ∧ s.fl = []
    · unfold takeOut
      rw [if_neg h0, if_pos hne]
      exact ⟨h, hu⟩
    · by_cases ho : s.op = []
      · obtain ⟨k, r, hf⟩ : ∃ (k : Nat) (r : List Int), s.fl = (k : Int) :: r := by
          cases q : s.fl with
          | nil => exact absurd ⟨ho, q⟩ hne
          | cons z r =>
            obtain ⟨k, e, _⟩ := h.pool.free z (by rw [q]; exact List.mem_cons_self)
            exact ⟨k, r, by rw [e]⟩
        obtain ⟨no, kl, sw⟩ := h.grow hf hB1
        have eg : growS c B s = ⟨s.O.set k c, r, s.ps ++ [((k : Int), List.replicate B (-1))], (k : Int) :: s.op⟩ := by unfold growS; rw [hf]; rfl
        have hi : holeOf (List.replicate B (-1)) = ((0 : Nat) : Int) := Pg.hole_at (by rw [List.length_replicate]; omega) (by unfold Pg.ow; rw [List.getElem?_replicate]; split <;> rfl) (fun j hj => by omega)
        have hX : ((k : Int), List.replicate B (-1)) ∈ s.ps ++ [((k : Int), List.replicate B (-1))] := List.mem_append_right _ (by simp)
        obtain ⟨q1, q2, _⟩ := sw.fill hX hi (by omega) h1 (fun m Z hm hn => by
          rcases List.mem_append.1 hm with q | q
          · exact hu m Z q
          · simp at q
            exact absurd q.1 hn)
        unfold takeOut
        rw [if_neg h0, if_neg hne, if_pos ho, eg]
        have ep : pageAt ⟨s.O.set k c, r, s.ps ++ [((k : Int), List.replicate B (-1))], (k : Int) :: s.op⟩ (k : Int) = List.replicate B (-1) := by
          unfold pageAt
          rw [Sh.mem_get sw.nod hX]
          rfl
        show Sw K c B (fillS _ (k : Int) o (pageAt _ (k : Int))) ∧ Uw (fillS _ (k : Int) o (pageAt _ (k : Int)))
        rw [ep]
        exact ⟨q1, q2⟩
      · obtain ⟨n, r, er⟩ : ∃ n r, s.op = n :: r := by
          cases q : s.op with
          | nil => exact absurd q ho
          | cons t r => exact ⟨t, r, rfl⟩
        have hno : n ∈ s.op := by rw [er]; exact List.mem_cons_self
        obtain ⟨X, hX, hh⟩ := (h.opm n).1 hno
        obtain ⟨i, hi, il⟩ : ∃ i : Nat, holeOf X = (i : Int) ∧ i < X.length := by
          rcases Pg.hole_cases X with ⟨q, _⟩ | ⟨i, q1, q2, _⟩
          · exact absurd q hh
          · exact ⟨i, q1, q2⟩
        obtain ⟨q1, q2, _⟩ := h.fill hX hi (by omega) h1 (fun m Z hm _ => hu m Z hm)
        unfold takeOut
        rw [if_neg h0, if_neg hne, if_neg ho]
        have ep : pageAt s n = X := by unfold pageAt; rw [Sh.mem_get h.nod hX]; rfl
        have eh : s.op.headD (-1) = n := by rw [er]; rfl
        show Sw K c B (fillS s (s.op.headD (-1)) o (pageAt s (s.op.headD (-1)))) ∧ Uw (fillS s (s.op.headD (-1)) o (pageAt s (s.op.headD (-1))))
        rw [eh, ep]
        exact ⟨q1, q2⟩
/-- It takes a page, or none. -/
theorem take_fl : (takeOut c B s o).1.fl.length = s.fl.length ∨ (takeOut c B s o).1.fl.length + 1 = s.fl.length := by
  unfold takeOut
  split
  · exact .inl rfl
  · split
    · exact .inl rfl
    · by_cases ho : s.op = []
      · simp only [if_pos ho]
        show (growS c B s).fl.length = _ ∨ (growS c B s).fl.length + 1 = _
        unfold growS
        split
        · exact .inl rfl
        · rename_i x r e
          exact .inr (by rw [e]; rfl)
      · simp only [if_neg ho]
        exact .inl rfl
/-- What is free isn't given back. -/
theorem give_free {n i : Int} (h : ownerS s n i = -1) : (giveOut s n i).2 ≠ 0 ∧ (giveOut s n i).1 = s := by
  unfold ownerS at h
  unfold giveOut
  split
  · exact ⟨by simp, rfl⟩
  · rename_i X hX
    rw [hX] at h
    have he : Pg.giveE X i ≠ 0 := by
      unfold Pg.giveE
      split
      · omega
      · rename_i hin
        split
        · omega
        · rename_i how
          exfalso
          simp only [Bool.not_eq_false] at hin
          replace h : (if Pg.inP X i = true then Pg.ow X i.toNat else -1) = -1 := h
          rw [if_pos hin] at h
          exact how h
    rw [if_pos he]
    exact ⟨he, rfl⟩
end

section
variable {K n : Nat} {B : Nat → Nat} {r : Rom} {k : Nat} {o : Int}
theorem isK_at (hr : RWf K n B r) (hk : k < n) : isK r (k : Int) = true := isK_true.2 ⟨by omega, by rw [hr.len]; omega⟩
/-- Take of a class that there is: what it comes to. -/
theorem takeR_ok (hr : RWf K n B r) (hk : k < n) {s1 : Shl} {p i : Int} (h : takeOut (k : Int) (B k) (shelf r k) o = (s1, p, i, 0)) : takeR B r (k : Int) o = (withS r k s1, p, i, 0) := by
  unfold takeR
  rw [if_pos (isK_at hr hk), Int.toNat_natCast, h]
  rfl
theorem giveR_ok {r' : Rom} (h1 : isK r' (k : Int) = true) {s2 : Shl} {p i : Int} (h : giveOut (shelf r' k) p i = (s2, 0)) : giveR r' (k : Int) p i = (withS r' k s2, 0) := by
  unfold giveR
  rw [if_pos h1, Int.toNat_natCast, h]
  rfl
theorem giveR_bad {r' : Rom} (h1 : isK r' (k : Int) = true) {p i e : Int} (h : (giveOut (shelf r' k) p i).2 = e) (he : e ≠ 0) : giveR r' (k : Int) p i = (r', e) := by
  unfold giveR
  rw [if_pos h1, Int.toNat_natCast]
  simp only [h]
  rw [if_neg he]
theorem shelf_with {s : Shl} (h : k < r.sh.length) : shelf (withS r k s) k = s := shelf_put (r := r) h
theorem shelf_with_other {s : Shl} {j : Nat} (h : j ≠ k) : shelf (withS r k s) j = ⟨s.O, s.fl, (shelf r j).ps, (shelf r j).op⟩ := shelf_put_other h
theorem held_sum (hr : RWf K n B r) : heldR r + (r.fl.length : Int) = K := by
  have := hr.pool.len
  unfold heldR
  omega
/-- A block taken, and given back: as many pages, open pages, blocks of each class; given back again it is refused. -/
theorem small_back (hr : RWf K n B r) (hk : k < n) (hK : K ≤ 1024) (hB1 : 1 ≤ B k) (hB : B k ≤ 512) (h0 : 0 ≤ o) (h1 : o ≤ 9223372036854775807) (hne : ¬ ((shelf r k).op = [] ∧ r.fl = [])) :
    ∃ (p i : Int) (r1 r2 : Rom), takeR B r (k : Int) o = (r1, p, i, 0) ∧ giveR r1 (k : Int) p i = (r2, 0) ∧ (giveR r2 (k : Int) p i).2 ≠ 0 ∧ (giveR r2 (k : Int) p i).1 = r2 ∧ Pl.Fit p ∧ Pl.Fit i ∧
      (heldR r1 = heldR r ∨ heldR r1 = heldR r + 1) ∧ r2.fl.length = r.fl.length ∧ r2.O.length = r.O.length ∧ r2.sh.length = r.sh.length ∧
      ∀ j, j < n → (shelf r2 j).op.length = (shelf r j).op.length ∧ usedS (shelf r2 j).ps = usedS (shelf r j).ps := by
  obtain ⟨sw, uw⟩ := hr.each k hk
  obtain ⟨p, i, s1, s2, bk⟩ := backs sw uw hK hB1 hB h0 h1 hne
  have hkl : k < r.sh.length := by rw [hr.len]; exact hk
  have e1 := takeR_ok hr hk bk.take
  have t1 := take_spares (o := o) sw
  rw [bk.take] at t1
  have hl1 : (withS r k s1).sh.length = r.sh.length := by simp [withS]
  have k1 : isK (withS r k s1) (k : Int) = true := isK_true.2 ⟨by omega, by rw [hl1]; omega⟩
  have sh1 : shelf (withS r k s1) k = s1 := shelf_with hkl
  have e2 : giveR (withS r k s1) (k : Int) p i = (withS (withS r k s1) k s2, 0) := giveR_ok k1 (by rw [sh1]; exact bk.give)
  have sh2 : shelf (withS (withS r k s1) k s2) k = s2 := shelf_with (by rw [hl1]; exact hkl)
  have k2 : isK (withS (withS r k s1) k s2) (k : Int) = true := isK_true.2 ⟨by omega, by simp [withS]; omega⟩
  have sw1 := (take_sw sw uw hB1 o h1).1
  rw [bk.take] at sw1
  have t2 := give_spares (n := p) (at_ := i) sw1
  rw [bk.give] at t2
  obtain ⟨z1, z2⟩ := give_free bk.free
  have e3 : giveR (withS (withS r k s1) k s2) (k : Int) p i = (withS (withS r k s1) k s2, (giveOut s2 p i).2) := giveR_bad k2 (by rw [sh2]) z1
  have hfl : s2.fl.length = r.fl.length := by
    have a : s1.fl.length + s1.ps.length = (shelf r k).fl.length + (shelf r k).ps.length := t1.2
    have b : s2.fl.length + s2.ps.length = s1.fl.length + s1.ps.length := t2.2
    have d := bk.pages
    show s2.fl.length = (shelf r k).fl.length
    omega
  have hO : s2.O.length = r.O.length := by
    have a := sw.pool.len
    have b : s1.O.length = K := sw1.pool.len
    have e4 : s2.O.length = s1.O.length := by
      have := bk.give
      unfold giveOut at this
      split at this
      · injection this with q _; rw [← q]
      · split at this
        · injection this with q _; rw [← q]
        · simp only [] at this
          split at this
          · injection this with q _
            rw [← q]
            simp
          · injection this with q _
            rw [← q]
    show s2.O.length = (shelf r k).O.length
    omega
  refine ⟨p, i, _, _, e1, e2, by rw [e3]; exact z1, by rw [e3], bk.fn, bk.fi, ?_, hfl, hO, by simp [withS], fun j hj => ?_⟩
  · have a := take_fl (c := (k : Int)) (B := B k) (o := o) (s := shelf r k)
    rw [bk.take] at a
    replace a : s1.fl.length = r.fl.length ∨ s1.fl.length + 1 = r.fl.length := a
    have b : r.O.length = K := sw.pool.len
    have d : s1.O.length = K := sw1.pool.len
    show (s1.O.length : Int) - (s1.fl.length : Int) = (r.O.length : Int) - (r.fl.length : Int) ∨ (s1.O.length : Int) - (s1.fl.length : Int) = (r.O.length : Int) - (r.fl.length : Int) + 1
    omega
  · by_cases e : j = k
    · subst e
      rw [sh2]
      exact ⟨bk.opens, bk.used⟩
    · rw [shelf_with_other e, shelf_with_other e]
      exact ⟨rfl, rfl⟩
end

section
variable {K : Nat} {B : Nat → Nat} {r : Rom} {c : Cf} {m : Nat} {o size : Int}
theorem lay_pages (hfl : m ≤ r.fl.length) (h1 : 1 ≤ m) (hp : Pw K r.O r.fl) (hn : c.cn ≤ 16) : (layN c r m).2.n :: (layN c r m).2.ps = r.fl.take m ∧ (layN c r m).2.cl = -1 ∧ (layN c r m).2.i = 0 := by
  obtain ⟨_, _, f3, _⟩ := takeN_facts (c := (c.cn : Int)) m r.O r.fl hp (by omega) (fit16 hn) hfl
  refine ⟨?_, rfl, rfl⟩
  show (takeN m c.cn r.O r.fl).2.2.headD 0 :: (takeN m c.cn r.O r.fl).2.2.tail = _
  rw [f3]
  cases q : r.fl.take m with
  | nil =>
    have : (r.fl.take m).length = 0 := by rw [q]; rfl
    rw [List.length_take] at this
    omega
  | cons a b => rfl
/-- A large thing placed, and dropped. -/
theorem large_back (hr : RWf K c.cn B r) (hn : c.cn ≤ 16) (h1 : 1 ≤ m) (hfl : m ≤ r.fl.length) :
    ∃ r2, dropR (layN c r m).1 (layN c r m).2 = (r2, 0) ∧ (dropR r2 (layN c r m).2).2 ≠ 0 ∧ (dropR r2 (layN c r m).2).1 = r2 ∧
      heldR (layN c r m).1 = heldR r + m ∧ heldR r2 = heldR r ∧ r2.sh = r.sh := by
  obtain ⟨e1, e2, e3⟩ := lay_pages (c := c) hfl h1 hr.pool hn
  have hw := hr.lay hn h1 hfl
  have hmem : ((layN c r m).2.n, (layN c r m).2.ps) ∈ (layN c r m).1.lg := List.mem_append_right _ (by simp [layN])
  have hd : dropR (layN c r m).1 (layN c r m).2 = (goN (layN c r m).1 ((layN c r m).2.n, (layN c r m).2.ps), 0) := by
    unfold dropR
    rw [e2, if_neg (by omega), if_pos ⟨rfl, hmem⟩]
  have hg := hw.go hmem
  obtain ⟨i1, i2, i3⟩ := lgAll_filter _ _ hw.lgn hmem
  have hnot : ((layN c r m).2.n, (layN c r m).2.ps) ∉ (goN (layN c r m).1 ((layN c r m).2.n, (layN c r m).2.ps)).lg := by
    show _ ∉ (layN c r m).1.lg.filter _
    rw [List.mem_filter]
    simp
  refine ⟨_, hd, ?_, ?_, ?_, ?_, rfl⟩
  · unfold dropR
    rw [e2, if_neg (by omega), if_neg (fun q => hnot q.2)]
    simp
  · unfold dropR
    rw [e2, if_neg (by omega), if_neg (fun q => hnot q.2)]
  · have a := hw.pool.len
    have b := hr.pool.len
    obtain ⟨_, f2, _⟩ := takeN_facts (c := (c.cn : Int)) m r.O r.fl hr.pool (by omega) (fit16 hn) hfl
    have d : (layN c r m).1.fl.length = r.fl.length - m := by
      show (takeN m c.cn r.O r.fl).2.1.length = _
      rw [f2, List.length_drop]
    unfold heldR
    omega
  · have a := hg.held
    have b := hr.held
    have d : (lgAll (goN (layN c r m).1 ((layN c r m).2.n, (layN c r m).2.ps)).lg).length = (lgAll r.lg).length := by
      have q1 : (lgAll (layN c r m).1.lg).length = (lgAll r.lg).length + m := by
        have : (layN c r m).1.lg = r.lg ++ [((layN c r m).2.n, (layN c r m).2.ps)] := rfl
        rw [this]
        unfold lgAll
        rw [List.flatMap_append, List.length_append]
        have : ([((layN c r m).2.n, (layN c r m).2.ps)].flatMap fun p : Int × List Int => p.1 :: p.2) = r.fl.take m := by rw [← e1]; simp
        rw [this, List.length_take]
        omega
      have q2 : (layN c r m).2.ps.length + 1 = m := by
        have := congrArg List.length e1
        rw [List.length_cons, List.length_take] at this
        omega
      have q3 : (lgAll (goN (layN c r m).1 ((layN c r m).2.n, (layN c r m).2.ps)).lg).length + ((layN c r m).2.ps.length + 1) = (lgAll (layN c r m).1.lg).length := i3
      omega
    have e : shSum (goN (layN c r m).1 ((layN c r m).2.n, (layN c r m).2.ps)).sh = shSum r.sh := rfl
    omega
/-- A class's blocks a page. -/
def blk (c : Cf) (k : Nat) : Nat := (blocks c (k : Int)).toNat
theorem blk_in (h : MayC c) {k : Nat} (hk : k < c.xs.length) : 1 ≤ blk c k ∧ blk c k ≤ 512 ∧ ((blk c k : Nat) : Int) = blocks c (k : Int) := by
  have := h.blocks hk
  unfold blk
  omega
/-- P20.5: what fits is placed; placed, and dropped, it leaves all as it was; dropped twice it is refused. -/
theorem place_back (hr : RWf K c.cn (blk c) r) (h : MayC c) (hcn : c.cn = c.xs.length) (hK : K ≤ 1024) (h0 : 0 ≤ o) (h1 : o ≤ 9223372036854775807) (hf : fitsR c r size = 0) :
    ∃ (p : Pc) (r1 r2 : Rom), placeR (blk c) c r o size = (r1, p, 0) ∧ dropR r1 p = (r2, 0) ∧ (dropR r2 p).2 ≠ 0 ∧ (dropR r2 p).1 = r2 ∧
      ((0 ≤ p.cl ∧ (heldR r1 = heldR r ∨ heldR r1 = heldR r + 1)) ∨ (p.cl = -1 ∧ heldR r1 = heldR r + allOf size c.size)) ∧ heldR r2 = heldR r ∧
      ∀ j, j < c.cn → (shelf r2 j).op.length = (shelf r j).op.length ∧ usedS (shelf r2 j).ps = usedS (shelf r j).ps := by
  have hn : c.cn ≤ 16 := by have := h.few; omega
  have hf0 := hf
  unfold fitsR at hf
  split at hf
  · rename_i ht
    obtain ⟨t1, t2⟩ := isT_true.1 ht
    by_cases hk : 0 ≤ pick c.xs size
    · rw [if_pos hk] at hf
      have hs : size ≤ small c := by
        by_cases q : size ≤ small c
        · exact q
        · have := h.pick_large (s := size) (by omega)
          omega
      obtain ⟨k, hkl, hp⟩ := h.pick_small t1 hs
      rw [hp] at hf hk
      have hkn : k < c.cn := by omega
      have hi := isK_at hr hkn
      have hne : ¬ ((shelf r k).op = [] ∧ r.fl = []) := by
        intro q
        have e : openR r (k : Int) = 0 := by
          unfold openR
          rw [if_pos hi, Int.toNat_natCast, q.1]
          rfl
        rw [if_pos ⟨e, q.2⟩] at hf
        omega
      obtain ⟨b1, b2, _⟩ := blk_in h hkl
      obtain ⟨p, i, r1, r2, g1, g2, g3, g4, _, _, g5, g6, g7, _, g8⟩ := small_back hr hkn hK b1 b2 h0 h1 hne
      refine ⟨⟨(k : Int), p, i, []⟩, r1, r2, ?_, ?_, ?_, ?_, .inl ⟨hk, g5⟩, ?_, g8⟩
      · unfold placeR
        rw [if_neg (by omega), if_neg (fun q => q hf0), hp, if_pos hk, g1]
      · unfold dropR
        rw [if_pos (show (0 : Int) ≤ (⟨(k : Int), p, i, []⟩ : Pc).cl from hk)]
        exact g2
      · unfold dropR
        rw [if_pos (show (0 : Int) ≤ (⟨(k : Int), p, i, []⟩ : Pc).cl from hk)]
        exact g3
      · unfold dropR
        rw [if_pos (show (0 : Int) ≤ (⟨(k : Int), p, i, []⟩ : Pc).cl from hk)]
        exact g4
      · unfold heldR
        omega
    · rw [if_neg hk] at hf
      have hb : small c < size := by
        by_cases q : small c < size
        · exact q
        · obtain ⟨k, _, e⟩ := h.pick_small t1 (show size ≤ small c by omega)
          omega
      have hl := h.large
      have ha := allOf_bounds (n := size) (p := c.size) (by omega)
      have ha1 : 1 ≤ allOf size c.size := by
        unfold allOf
        have := many_facts (n := size) (b := c.size) t1 (by omega)
        split <;> omega
      have hfl : ¬ (r.fl.length : Int) < allOf size c.size := by
        intro q
        rw [if_pos q] at hf
        omega
      obtain ⟨r2, g1, g2, g3, g4, g5, g6⟩ := large_back (m := (allOf size c.size).toNat) hr hn (by omega) (by omega)
      refine ⟨_, _, r2, ?_, g1, g2, g3, .inr ⟨rfl, by rw [g4]; omega⟩, g5, fun j hj => ?_⟩
      · unfold placeR
        rw [if_neg (by omega), if_neg (fun q => q hf0), if_neg hk]
      · unfold shelf
        rw [g6]
        exact ⟨rfl, rfl⟩
  · omega
end
end Go.Proofs.Ytfkegbipfekbdaa.Room
