import Derived.Test.YtfkegbipfekbdaaZPgBits
import Derived.Test.YtfkegbipfekbdaaZPlNum
/-
  A shelf as plain lists: the pool's owners and free pages, the shelf's pages (number and owners), the open ones; what Take, Give, Own come to. No statement about a Go function.
-/
namespace Go.Proofs.Ytfkegbipfekbdaa.Sh
open Pg (holeOf topOf usedN usedL ow takeX takeA takeE giveX giveE ownX ownE Pn inP ownerOf)
open Pl (Pw Fit)

/-- A plain shelf. -/
structure Shl where
  O : List Int
  fl : List Int
  ps : List (Int × List Int)
  op : List Int
abbrev Ps := List (Int × List Int)
def nums (ps : Ps) : List Int := ps.map (·.1)
/-- The owners of a page of the shelf. -/
def getP : Ps → Int → Option (List Int)
  | [], _ => none
  | (m, X) :: r, n => if m = n then some X else getP r n
/-- With another page in a page's stead; without a page. -/
def setP (ps : Ps) (n : Int) (Y : List Int) : Ps := ps.map fun q => if q.1 = n then (n, Y) else q
def delP (ps : Ps) (n : Int) : Ps := ps.filter fun q => q.1 != n
/-- How many blocks aren't free. -/
def usedS : Ps → Nat
  | [] => 0
  | q :: r => usedN q.2 + usedS r

section
variable {ps : Ps} {n m : Int} {X Y : List Int}
theorem mem_nums (h : (n, X) ∈ ps) : n ∈ nums ps := List.mem_map.2 ⟨_, h, rfl⟩
theorem nums_mem (h : n ∈ nums ps) : ∃ X, (n, X) ∈ ps := by
  obtain ⟨q, hq, e⟩ := List.mem_map.1 h
  exact ⟨q.2, by rw [← e]; exact hq⟩
theorem get_mem (h : getP ps n = some X) : (n, X) ∈ ps := by
  induction ps with
  | nil => cases h
  | cons q r ih =>
    obtain ⟨k, Z⟩ := q
    unfold getP at h
    split at h
    · rename_i e
      cases h
      rw [e]
      exact List.mem_cons_self
    · exact List.mem_cons_of_mem _ (ih h)
theorem mem_get (hn : (nums ps).Nodup) (h : (n, X) ∈ ps) : getP ps n = some X := by
  induction ps with
  | nil => cases h
  | cons q r ih =>
    obtain ⟨k, Z⟩ := q
    obtain ⟨h1, h2⟩ := List.nodup_cons.1 hn
    unfold getP
    rcases List.mem_cons.1 h with e | e
    · cases e
      rw [if_pos rfl]
    · rw [if_neg (fun z => h1 (by subst z; exact mem_nums e))]
      exact ih h2 e
theorem get_iff (hn : (nums ps).Nodup) : getP ps n = some X ↔ (n, X) ∈ ps := ⟨get_mem, mem_get hn⟩
theorem get_none : getP ps n = none ↔ n ∉ nums ps := by
  induction ps with
  | nil => simp [getP, nums]
  | cons q r ih =>
    obtain ⟨k, Z⟩ := q
    unfold getP
    by_cases e : k = n
    · rw [if_pos e]
      simp [nums, e]
    · rw [if_neg e, ih]
      have : ¬ n = k := fun z => e z.symm
      simp [nums, this]
theorem same_page (hn : (nums ps).Nodup) (h : (n, X) ∈ ps) (k : (n, Y) ∈ ps) : X = Y := by
  have := (mem_get hn h).symm.trans (mem_get hn k)
  exact Option.some.inj this
theorem nums_set : nums (setP ps n Y) = nums ps := by
  unfold nums setP
  rw [List.map_map]
  apply List.map_congr_left
  intro q hq
  simp only [Function.comp]
  split
  · rename_i e; exact e.symm
  · rfl
theorem mem_set : (m, X) ∈ setP ps n Y ↔ (m = n ∧ X = Y ∧ n ∈ nums ps) ∨ (m ≠ n ∧ (m, X) ∈ ps) := by
  unfold setP
  rw [List.mem_map]
  constructor
  · rintro ⟨⟨k, Z⟩, hq, e⟩
    by_cases z : k = n
    · rw [if_pos z] at e
      cases e
      exact Or.inl ⟨rfl, rfl, by subst z; exact mem_nums hq⟩
    · rw [if_neg z] at e
      cases e
      exact Or.inr ⟨z, hq⟩
  · rintro (⟨rfl, rfl, h⟩ | ⟨h1, h2⟩)
    · obtain ⟨Z, hZ⟩ := nums_mem h
      exact ⟨_, hZ, by simp⟩
    · exact ⟨_, h2, by simp [h1]⟩
theorem mem_del : (m, X) ∈ delP ps n ↔ m ≠ n ∧ (m, X) ∈ ps := by
  unfold delP
  rw [List.mem_filter]
  simp [and_comm]
theorem nums_del : nums (delP ps n) = (nums ps).filter fun k => k != n := by
  unfold nums delP
  rw [List.filter_map]
  rfl
theorem len_set : (setP ps n Y).length = ps.length := by simp [setP]
theorem nums_len : (nums ps).length = ps.length := by simp [nums]
theorem del_none (h : n ∉ nums ps) : delP ps n = ps := by
  unfold delP
  rw [List.filter_eq_self]
  intro q hq
  have : q.1 ≠ n := fun e => h (by rw [← e]; exact mem_nums (X := q.2) hq)
  simpa using this
theorem set_none (h : n ∉ nums ps) : setP ps n Y = ps := by
  unfold setP
  have : ∀ q ∈ ps, (if q.1 = n then (n, Y) else q) = q := fun q hq => if_neg (fun e => h (by rw [← e]; exact mem_nums (X := q.2) hq))
  rw [List.map_congr_left this, List.map_id']
theorem set_cons_same (h : n ∉ nums ps) : setP ((n, X) :: ps) n Y = (n, Y) :: ps := by
  have := set_none (Y := Y) h
  unfold setP at this ⊢
  rw [List.map_cons, this]
  simp
theorem set_cons_other (h : m ≠ n) : setP ((m, X) :: ps) n Y = (m, X) :: setP ps n Y := by simp [setP, h]
theorem del_cons_same (h : n ∉ nums ps) : delP ((n, X) :: ps) n = ps := by
  have := del_none h
  unfold delP at this ⊢
  rw [List.filter_cons, if_neg (by simp), this]
theorem del_cons_other (h : m ≠ n) : delP ((m, X) :: ps) n = (m, X) :: delP ps n := by simp [delP, h]
theorem used_set (hn : (nums ps).Nodup) (h : (n, X) ∈ ps) : usedS (setP ps n Y) + usedN X = usedS ps + usedN Y := by
  induction ps with
  | nil => cases h
  | cons q r ih =>
    obtain ⟨k, Z⟩ := q
    obtain ⟨h1, h2⟩ := List.nodup_cons.1 hn
    rcases List.mem_cons.1 h with e | e
    · cases e
      rw [set_cons_same h1]
      simp only [usedS]
      omega
    · have hk : k ≠ n := fun z => h1 (by subst z; exact mem_nums e)
      rw [set_cons_other hk]
      simp only [usedS]
      have := ih h2 e
      omega
theorem used_del (hn : (nums ps).Nodup) (h : (n, X) ∈ ps) : usedS (delP ps n) + usedN X = usedS ps := by
  induction ps with
  | nil => cases h
  | cons q r ih =>
    obtain ⟨k, Z⟩ := q
    obtain ⟨h1, h2⟩ := List.nodup_cons.1 hn
    rcases List.mem_cons.1 h with e | e
    · cases e
      rw [del_cons_same h1]
      simp only [usedS]
      omega
    · have hk : k ≠ n := fun z => h1 (by subst z; exact mem_nums e)
      rw [del_cons_other hk]
      simp only [usedS]
      have := ih h2 e
      omega
theorem len_del (hn : (nums ps).Nodup) (h : n ∈ nums ps) : (delP ps n).length + 1 = ps.length := by
  induction ps with
  | nil => cases h
  | cons q r ih =>
    obtain ⟨k, Z⟩ := q
    obtain ⟨h1, h2⟩ := List.nodup_cons.1 hn
    by_cases hk : k = n
    · subst hk
      rw [del_cons_same h1]
      rfl
    · rw [del_cons_other hk]
      have : n ∈ nums r := by
        rcases List.mem_cons.1 h with e | e
        · exact absurd e.symm hk
        · exact e
      have := ih h2 this
      simp only [List.length_cons]
      omega
theorem used_app : usedS (ps ++ [(n, X)]) = usedS ps + usedN X := by
  induction ps with
  | nil => simp [usedS]
  | cons q r ih => simp only [List.cons_append, usedS, ih]; omega
end

/-- Of numbers below K, each once, there are K at most. -/
theorem nodup_le : ∀ (K : Nat) (l : List Int), l.Nodup → (∀ x ∈ l, ∃ k : Nat, x = (k : Int) ∧ k < K) → l.length ≤ K
  | 0, [], _, _ => Nat.le_refl _
  | 0, x :: _, _, h => by obtain ⟨k, _, hk⟩ := h x List.mem_cons_self; omega
  | K + 1, l, hn, h => by
    by_cases hm : (K : Int) ∈ l
    · have h1 := nodup_le K (l.erase (K : Int)) (hn.erase _) (fun x hx => by
        obtain ⟨h2, h3⟩ := (hn.mem_erase_iff).1 hx
        obtain ⟨k, rfl, hk⟩ := h x h3
        exact ⟨k, rfl, by omega⟩)
      have h2 := List.length_erase_of_mem hm
      have h3 : 0 < l.length := List.length_pos_of_mem hm
      omega
    · have h1 := nodup_le K l hn (fun x hx => by
        obtain ⟨k, rfl, hk⟩ := h x hx
        have : k ≠ K := fun e => hm (by subst e; exact hx)
        exact ⟨k, rfl, by omega⟩)
      omega
theorem erase_at : ∀ {l : List Int} {j : Nat} {n : Int}, l.Nodup → l[j]? = some n → l.eraseIdx j = l.erase n
  | [], _, _, _, h => by simp at h
  | x :: r, 0, n, _, h => by
    simp at h
    subst h
    simp
  | x :: r, j + 1, n, hn, h => by
    obtain ⟨h1, h2⟩ := List.nodup_cons.1 hn
    simp at h
    have hx : x ≠ n := fun e => h1 (by subst e; exact List.mem_of_getElem? h)
    rw [List.eraseIdx_cons_succ, List.erase_cons_tail (by simpa using hx), erase_at h2 h]

/-- What a shelf keeps to: K pages in the pool, of class c, of B blocks. -/
structure Sw (K : Nat) (c : Int) (B : Nat) (s : Shl) : Prop where
  pool : Pw K s.O s.fl
  nod : (nums s.ps).Nodup
  own : ∀ n ∈ nums s.ps, ∃ k : Nat, n = (k : Int) ∧ k < K ∧ s.O[k]? = some c
  len : ∀ n X, (n, X) ∈ s.ps → X.length = B
  pn : ∀ n X, (n, X) ∈ s.ps → Pn X
  opn : s.op.Nodup
  opm : ∀ n, n ∈ s.op ↔ ∃ X, (n, X) ∈ s.ps ∧ holeOf X ≠ -1
  c0 : 0 ≤ c
  c1 : c ≤ 9223372036854775807
/-- Each page has a block that isn't free. -/
def Uw (s : Shl) : Prop := ∀ n X, (n, X) ∈ s.ps → 1 ≤ usedN X
section
variable {K B : Nat} {c : Int} {s : Shl} {n : Int} {X Y : List Int}
theorem Sw.few (h : Sw K c B s) : s.ps.length ≤ K := by
  rw [← nums_len]
  exact nodup_le K _ h.nod fun x hx => by obtain ⟨k, e, hk, _⟩ := h.own x hx; exact ⟨k, e, hk⟩
theorem Sw.op_num (h : Sw K c B s) (hn : n ∈ s.op) : n ∈ nums s.ps := by
  obtain ⟨X, hX, _⟩ := (h.opm n).1 hn
  exact mem_nums hX
theorem Sw.op_few (h : Sw K c B s) : s.op.length ≤ K :=
  nodup_le K _ h.opn fun x hx => by obtain ⟨k, e, hk, _⟩ := h.own x (h.op_num hx); exact ⟨k, e, hk⟩
theorem usedS_le : ∀ {ps : Ps}, (∀ n X, (n, X) ∈ ps → X.length = B) → usedS ps ≤ ps.length * B
  | [], _ => by simp [usedS]
  | (m, Z) :: r, h => by
    have h1 := usedS_le (ps := r) fun n X q => h n X (List.mem_cons_of_mem _ q)
    have h2 := h m Z List.mem_cons_self
    have h3 := Pg.used_le Z
    simp only [usedS, List.length_cons]
    rw [Nat.succ_mul]
    omega
theorem Sw.used_le (h : Sw K c B s) : usedS s.ps ≤ K * B := Nat.le_trans (usedS_le h.len) (Nat.mul_le_mul_right _ h.few)
/-- A page's owners turn, and with them whether it is open. -/
theorem Sw.turn {op : List Int} (h : Sw K c B s) (hX : (n, X) ∈ s.ps) (hl : Y.length = B) (hp : Pn Y) (h1 : op.Nodup) (h2 : ∀ m, m ∈ op ↔ (m = n ∧ holeOf Y ≠ -1) ∨ (m ≠ n ∧ m ∈ s.op)) : Sw K c B ⟨s.O, s.fl, setP s.ps n Y, op⟩ := by
  refine ⟨h.pool, by simp only [nums_set]; exact h.nod, by simp only [nums_set]; exact h.own, fun m Z hm => ?_, fun m Z hm => ?_, h1, fun m => ?_, h.c0, h.c1⟩
  · rcases mem_set.1 hm with ⟨_, rfl, _⟩ | ⟨_, q⟩
    · exact hl
    · exact h.len _ _ q
  · rcases mem_set.1 hm with ⟨_, rfl, _⟩ | ⟨_, q⟩
    · exact hp
    · exact h.pn _ _ q
  · rw [h2 m]
    constructor
    · rintro (⟨rfl, q⟩ | ⟨q1, q2⟩)
      · exact ⟨Y, mem_set.2 (Or.inl ⟨rfl, rfl, mem_nums hX⟩), q⟩
      · obtain ⟨Z, hZ, hh⟩ := (h.opm m).1 q2
        exact ⟨Z, mem_set.2 (Or.inr ⟨q1, hZ⟩), hh⟩
    · rintro ⟨Z, hZ, hh⟩
      rcases mem_set.1 hZ with ⟨e, rfl, _⟩ | ⟨q1, q2⟩
      · exact Or.inl ⟨e, hh⟩
      · exact Or.inr ⟨q1, (h.opm m).2 ⟨Z, q2, hh⟩⟩
/-- A page goes back. -/
theorem Sw.back {k : Nat} (h : Sw K c B s) (hk : (k : Int) ∈ nums s.ps) : Sw K c B ⟨s.O.set k (-1), (k : Int) :: s.fl, delP s.ps (k : Int), s.op.erase (k : Int)⟩ := by
  obtain ⟨k', e, hlt, ho⟩ := h.own _ hk
  have : k' = k := by omega
  subst this
  have hc := h.c0
  refine ⟨h.pool.give ho (by omega), by rw [nums_del]; exact h.nod.filter _, fun m hm => ?_, fun m Z hm => h.len _ _ (mem_del.1 hm).2, fun m Z hm => h.pn _ _ (mem_del.1 hm).2, h.opn.erase _, fun m => ?_, h.c0, h.c1⟩
  · obtain ⟨Z, hZ⟩ := nums_mem hm
    obtain ⟨q1, q2⟩ := mem_del.1 hZ
    obtain ⟨j, rfl, hj, hO⟩ := h.own m (mem_nums q2)
    exact ⟨j, rfl, hj, by rw [List.getElem?_set_ne (by omega)]; exact hO⟩
  · rw [h.opn.mem_erase_iff, h.opm m]
    constructor
    · rintro ⟨q1, Z, hZ, hh⟩
      exact ⟨Z, mem_del.2 ⟨q1, hZ⟩, hh⟩
    · rintro ⟨Z, hZ, hh⟩
      obtain ⟨q1, q2⟩ := mem_del.1 hZ
      exact ⟨q1, Z, q2, hh⟩
/-- A page comes. -/
theorem Sw.grow {k : Nat} {r : List Int} (h : Sw K c B s) (hf : s.fl = (k : Int) :: r) (hB : 1 ≤ B) : (k : Int) ∉ nums s.ps ∧ k < K ∧ Sw K c B ⟨s.O.set k c, r, s.ps ++ [((k : Int), List.replicate B (-1))], (k : Int) :: s.op⟩ := by
  have hp := h.pool
  rw [hf] at hp
  obtain ⟨k', e, hk⟩ := hp.free (k : Int) List.mem_cons_self
  have : k' = k := by omega
  subst this
  have hlt : k' < K := by rw [← hp.len]; exact (List.getElem?_eq_some_iff.1 hk).1
  have hc := h.c0
  have hno : (k' : Int) ∉ nums s.ps := fun q => by
    obtain ⟨j, e, _, hj⟩ := h.own _ q
    have : j = k' := by omega
    subst this
    rw [hk] at hj
    have := Option.some.inj hj
    omega
  have hole : holeOf (List.replicate B (-1)) ≠ -1 := by
    have : holeOf (List.replicate B (-1)) = ((0 : Nat) : Int) := Pg.hole_at (by rw [List.length_replicate]; omega) (by unfold ow; rw [List.getElem?_replicate]; split <;> rfl) (fun j hj => by omega)
    rw [this]; omega
  refine ⟨hno, hlt, ?_, ?_, fun n hn => ?_, fun n X hX => ?_, fun n X hX => ?_, ?_, fun n => ?_, h.c0, h.c1⟩
  · exact hp.take h.c0 ⟨by omega, h.c1⟩
  · unfold nums
    rw [List.map_append]
    refine List.nodup_append.2 ⟨h.nod, by simp, fun a ha b hb => ?_⟩
    simp at hb
    subst hb
    exact fun e => hno (by rw [← e]; exact ha)
  · unfold nums at hn
    rw [List.map_append, List.mem_append] at hn
    rcases hn with q | q
    · obtain ⟨j, rfl, hj, hO⟩ := h.own n q
      refine ⟨j, rfl, hj, ?_⟩
      rw [List.getElem?_set_ne (fun z => hno (by rw [z]; exact q))]
      exact hO
    · simp at q
      subst q
      exact ⟨k', rfl, hlt, by rw [List.getElem?_set_self (by rw [hp.len]; exact hlt)]⟩
  · rcases List.mem_append.1 hX with q | q
    · exact h.len _ _ q
    · simp at q
      rw [q.2]; simp
  · rcases List.mem_append.1 hX with q | q
    · exact h.pn _ _ q
    · simp at q
      rw [q.2]
      intro x hx
      rw [List.eq_of_mem_replicate hx]; omega
  · exact List.nodup_cons.2 ⟨fun q => hno (h.op_num q), h.opn⟩
  · rw [List.mem_cons, h.opm n]
    constructor
    · rintro (rfl | ⟨X, hX, hh⟩)
      · exact ⟨_, List.mem_append_right _ (by simp), hole⟩
      · exact ⟨X, List.mem_append_left _ hX, hh⟩
    · rintro ⟨X, hX, hh⟩
      rcases List.mem_append.1 hX with q | q
      · exact Or.inr ⟨X, q, hh⟩
      · simp at q
        exact Or.inl q.1
end

/-- Another owner: as many blocks aren't free, and there is a free one just if there was. -/
theorem own_keeps (X : List Int) (k o : Int) : usedN (ownX X k o) = usedN X ∧ (holeOf (ownX X k o) = -1 ↔ holeOf X = -1) := by
  have hu : usedN (ownX X k o) = usedN X := by
    unfold ownX
    split
    · rfl
    · rename_i q
      split
      · rfl
      · rename_i z
        exact Pg.usedN_again (Pg.ow_in z) z (by omega)
  refine ⟨hu, ?_⟩
  rw [← Pg.full_iff, ← Pg.full_iff, hu, Pg.own_len]

/-! ### What Take, Give, Own come to -/
/-- A page more, the first open one. -/
def growS (c : Int) (B : Nat) (s : Shl) : Shl := match s.fl with
  | [] => s
  | x :: r => ⟨s.O.set x.toNat c, r, s.ps ++ [(x, List.replicate B (-1))], x :: s.op⟩
/-- A block of page n is taken, which has the owners X. -/
def fillS (s : Shl) (n o : Int) (X : List Int) : Shl := ⟨s.O, s.fl, setP s.ps n (takeX X o), if holeOf (takeX X o) = -1 then s.op.erase n else s.op⟩
def pageAt (s : Shl) (n : Int) : List Int := (getP s.ps n).getD []
/-- Take: the shelf behind it, the page, the block, what is wrong. -/
def takeOut (c : Int) (B : Nat) (s : Shl) (o : Int) : Shl × Int × Int × Int :=
  if o < 0 then (s, 0, 0, 1) else
  if s.op = [] ∧ s.fl = [] then (s, 0, 0, 5) else
  let t := if s.op = [] then growS c B s else s
  let n := t.op.headD (-1)
  (fillS t n o (pageAt t n), n, takeA (pageAt t n) o, 0)
/-- Give: the shelf behind it, what is wrong. -/
def giveOut (s : Shl) (n at_ : Int) : Shl × Int := match getP s.ps n with
  | none => (s, 1)
  | some X => if giveE X at_ ≠ 0 then (s, giveE X at_) else
    let op := if holeOf X = -1 then n :: s.op else s.op
    if usedN (giveX X at_) = 0 then (⟨s.O.set n.toNat (-1), n :: s.fl, delP s.ps n, op.erase n⟩, 0) else (⟨s.O, s.fl, setP s.ps n (giveX X at_), op⟩, 0)
def ownOut (s : Shl) (n at_ o : Int) : Shl × Int := match getP s.ps n with
  | none => (s, 1)
  | some X => (⟨s.O, s.fl, setP s.ps n (ownX X at_ o), s.op⟩, ownE X at_ o)
def ownerS (s : Shl) (n at_ : Int) : Int := match getP s.ps n with
  | none => -1
  | some X => ownerOf X at_
/-- Plan: from, its top, to, its hole. -/
def planS (s : Shl) : Option (Int × Int × Int × Int) := if s.op.length < 2 then none else
  let f := s.op.getLastD (-1)
  let t := s.op.headD (-1)
  some (f, topOf (pageAt s f), t, holeOf (pageAt s t))
def newS (K : Nat) : Shl := ⟨Pl.freed K, Pl.turns K, [], []⟩
theorem Sw.new (K : Nat) (c : Int) (B : Nat) (h0 : 0 ≤ c) (h1 : c ≤ 9223372036854775807) : Sw K c B (newS K) :=
  ⟨Pw.new K, by simp [newS, nums], fun n hn => by simp [newS, nums] at hn, fun n X h => by simp [newS] at h, fun n X h => by simp [newS] at h, by simp [newS], fun n => by simp [newS], h0, h1⟩
theorem Uw.new (K : Nat) : Uw (newS K) := fun n X h => by simp [newS] at h
end Go.Proofs.Ytfkegbipfekbdaa.Sh
