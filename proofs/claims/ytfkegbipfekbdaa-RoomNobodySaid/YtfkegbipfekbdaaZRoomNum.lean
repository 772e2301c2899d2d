import Derived.Test.YtfkegbipfekbdaaZShNum
import Derived.Test.YtfkegbipfekbdaaZPlaceNum
/-
  A room as plain lists: the pool, each class's pages and open ones, the large things' places, the steps; what a shelf's Take, Give and Own leave of the others. No statement about a Go function.
-/
namespace Go.Proofs.Ytfkegbipfekbdaa.Room
open Sh (Shl Ps Sw Uw nums getP setP delP usedS takeOut giveOut ownOut ownerS planS growS fillS pageAt mem_nums)
open Pl (Pw)
open Pg (usedN holeOf)

/-! ### One shelf among others -/
/-- Pages that are somebody else's than c's, and not free, stay so. -/
def Spares (c : Int) (O O' : List Int) : Prop := ∀ (j : Nat) (v : Int), v ≠ -1 → v ≠ c → O[j]? = some v → O'[j]? = some v
theorem Spares.refl (c : Int) (O : List Int) : Spares c O O := fun _ _ _ _ h => h
theorem Spares.set {c u v : Int} {O : List Int} {k : Nat} (h : O[k]? = some u) (hu : u = -1 ∨ u = c) : Spares c O (O.set k v) := by
  intro j y h1 h2 hj
  by_cases e : k = j
  · subst e
    rw [h] at hj
    cases hj
    rcases hu with q | q
    · exact absurd q h1
    · exact absurd q h2
  · rw [List.getElem?_set_ne e]
    exact hj
section
variable {K B : Nat} {c o n at_ : Int} {s : Shl}
theorem grow_spares (h : Sw K c B s) : Spares c s.O (growS c B s).O ∧ (growS c B s).fl.length + (growS c B s).ps.length = s.fl.length + s.ps.length := by
  unfold growS
  split
  · exact ⟨Spares.refl _ _, rfl⟩
  · rename_i x r e
    obtain ⟨k, hx, hk⟩ := h.pool.free x (by rw [e]; simp)
    subst hx
    refine ⟨?_, by rw [e]; simp; omega⟩
    rw [Int.toNat_natCast]
    exact Spares.set hk (.inl rfl)
theorem fill_spares (X : List Int) : (fillS s n o X).O = s.O ∧ (fillS s n o X).fl = s.fl ∧ (fillS s n o X).ps.length = s.ps.length := ⟨rfl, rfl, Sh.len_set⟩
theorem take_spares (h : Sw K c B s) : Spares c s.O (takeOut c B s o).1.O ∧ (takeOut c B s o).1.fl.length + (takeOut c B s o).1.ps.length = s.fl.length + s.ps.length := by
  unfold takeOut
  by_cases h1 : o < 0
  · rw [if_pos h1]
    exact ⟨Spares.refl _ _, rfl⟩
  · rw [if_neg h1]
    by_cases h2 : s.op = [] ∧ s.fl = []
    · rw [if_pos h2]
      exact ⟨Spares.refl _ _, rfl⟩
    · rw [if_neg h2]
      by_cases h3 : s.op = []
      · simp only [if_pos h3]
        obtain ⟨g1, g2⟩ := grow_spares h
        refine ⟨g1, ?_⟩
        show (growS c B s).fl.length + (setP _ _ _).length = _
        rw [Sh.len_set]
        exact g2
      · simp only [if_neg h3]
        refine ⟨Spares.refl _ _, ?_⟩
        show s.fl.length + (setP _ _ _).length = _
        rw [Sh.len_set]
theorem give_spares (h : Sw K c B s) : Spares c s.O (giveOut s n at_).1.O ∧ (giveOut s n at_).1.fl.length + (giveOut s n at_).1.ps.length = s.fl.length + s.ps.length := by
  unfold giveOut
  split
  · exact ⟨Spares.refl _ _, rfl⟩
  · rename_i X hX
    have hm := Sh.get_mem hX
    split
    · exact ⟨Spares.refl _ _, rfl⟩
    · simp only []
      split
      · obtain ⟨k, hk, hlt, hO⟩ := h.own n (mem_nums hm)
        subst hk
        refine ⟨?_, ?_⟩
        · rw [Int.toNat_natCast]
          exact Spares.set hO (.inr rfl)
        · have := Sh.len_del h.nod (mem_nums hm)
          simp only [List.length_cons]
          omega
      · refine ⟨Spares.refl _ _, ?_⟩
        show s.fl.length + (setP _ _ _).length = _
        rw [Sh.len_set]
theorem own_spares : (ownOut s n at_ o).1.O = s.O ∧ (ownOut s n at_ o).1.fl = s.fl ∧ (ownOut s n at_ o).1.ps.length = s.ps.length := by
  unfold ownOut
  split
  · exact ⟨rfl, rfl, rfl⟩
  · exact ⟨rfl, rfl, Sh.len_set⟩
/-- A shelf of another class is as it was. -/
theorem Sw.other {d : Int} {O' fl' : List Int} (h : Sw K d B s) (hp : Pw K O' fl') (hs : Spares c s.O O') (hd : d ≠ c) : Sw K d B ⟨O', fl', s.ps, s.op⟩ := by
  refine ⟨hp, h.nod, fun n hn => ?_, h.len, h.pn, h.opn, h.opm, h.c0, h.c1⟩
  obtain ⟨k, e, hk, hO⟩ := h.own n hn
  have := h.c0
  exact ⟨k, e, hk, hs k d (by omega) hd hO⟩
end

/-! ### Many pages, taken, and given back -/
/-- n pages are taken for an owner: the owners, the free ones, the pages. -/
def takeN : Nat → Int → List Int → List Int → List Int × List Int × List Int
  | 0, _, O, fl => (O, fl, [])
  | _ + 1, _, O, [] => (O, [], [])
  | n + 1, o, O, x :: r => ((takeN n o (O.set x.toNat o) r).1, (takeN n o (O.set x.toNat o) r).2.1, x :: (takeN n o (O.set x.toNat o) r).2.2)
def giveN : List Int → List Int → List Int → List Int × List Int
  | [], O, fl => (O, fl)
  | x :: r, O, fl => giveN r (O.set x.toNat (-1)) (x :: fl)
section
variable {K : Nat} {c : Int}
theorem takeN_facts : ∀ (n : Nat) (O fl : List Int), Pw K O fl → 0 ≤ c → Pl.Fit c → n ≤ fl.length →
    Pw K (takeN n c O fl).1 (takeN n c O fl).2.1 ∧ (takeN n c O fl).2.1 = fl.drop n ∧ (takeN n c O fl).2.2 = fl.take n ∧ Spares c O (takeN n c O fl).1 ∧ (∀ x ∈ fl.take n, ∃ k : Nat, x = (k : Int) ∧ k < K ∧ (takeN n c O fl).1[k]? = some c) ∧ (∀ (k : Nat), O[k]? = some c → (takeN n c O fl).1[k]? = some c)
  | 0, O, fl, h, _, _, _ => ⟨h, rfl, rfl, Spares.refl _ _, fun x hx => by simp at hx, fun _ h => h⟩
  | n + 1, O, [], _, _, _, hn => by simp at hn
  | n + 1, O, x :: r, h, h0, h1, hn => by
    obtain ⟨k, e, hk⟩ := h.free x (by simp)
    subst e
    have hlt : k < K := by rw [← h.len]; exact (List.getElem?_eq_some_iff.1 hk).1
    have hp := h.take h0 h1
    obtain ⟨i1, i2, i3, i4, i5, i6⟩ := takeN_facts n (O.set k c) r hp h0 h1 (by simp at hn; omega)
    have hs : (O.set k c)[k]? = some c := List.getElem?_set_self (by rw [h.len]; exact hlt)
    simp only [takeN, Int.toNat_natCast]
    refine ⟨i1, by rw [i2]; rfl, by rw [i3]; rfl, fun j v q1 q2 hj => ?_, fun y hy => ?_, fun j hj => ?_⟩
    · exact i4 j v q1 q2 (Spares.set (v := c) hk (.inl rfl) j v q1 q2 hj)
    · rw [List.take_succ_cons] at hy
      rcases List.mem_cons.1 hy with rfl | m
      · exact ⟨k, rfl, hlt, i6 k hs⟩
      · exact i5 y m
    · refine i6 j ?_
      by_cases z : k = j
      · subst z; exact hs
      · rw [List.getElem?_set_ne z]; exact hj
theorem giveN_facts : ∀ (l O fl : List Int), Pw K O fl → 0 ≤ c → l.Nodup → (∀ x ∈ l, ∃ k : Nat, x = (k : Int) ∧ O[k]? = some c) →
    Pw K (giveN l O fl).1 (giveN l O fl).2 ∧ (giveN l O fl).2 = l.reverse ++ fl ∧ Spares c O (giveN l O fl).1 ∧ (∀ k : Nat, O[k]? = some c → (k : Int) ∉ l → (giveN l O fl).1[k]? = some c)
  | [], O, fl, h, _, _, _ => ⟨h, rfl, Spares.refl _ _, fun _ h _ => h⟩
  | x :: r, O, fl, h, h0, hn, hx => by
    obtain ⟨n1, n2⟩ := List.nodup_cons.1 hn
    obtain ⟨k, e, hk⟩ := hx x (by simp)
    subst e
    have hp := h.give hk (by omega)
    obtain ⟨i1, i2, i3, i4⟩ := giveN_facts r (O.set k (-1)) ((k : Int) :: fl) hp h0 n2 (fun y hy => by
      obtain ⟨j, e, hj⟩ := hx y (by simp [hy])
      refine ⟨j, e, ?_⟩
      rw [List.getElem?_set_ne (fun z => n1 (by rw [z, ← e]; exact hy))]
      exact hj)
    simp only [giveN, Int.toNat_natCast]
    refine ⟨i1, by rw [i2]; simp, fun j v q1 q2 hj => ?_, fun j hj hnj => ?_⟩
    · exact i3 j v q1 q2 (Spares.set (v := -1) hk (.inr rfl) j v q1 q2 hj)
    · refine i4 j ?_ (fun m => hnj (by simp [m]))
      rw [List.getElem?_set_ne (fun z => hnj (by simp [z]))]
      exact hj
end

/-! ### The room -/
/-- The pool's owners, the free pages, each class's pages and open ones, the large things' pages (the first one, the others), the steps. -/
structure Rom where
  O : List Int
  fl : List Int
  sh : List (Ps × List Int)
  lg : List (Int × List Int)
  st : Int
def shelf (r : Rom) (k : Nat) : Shl := ⟨r.O, r.fl, ((r.sh[k]?).getD ([], [])).1, ((r.sh[k]?).getD ([], [])).2⟩
def isK (r : Rom) (k : Int) : Bool := decide (0 ≤ k) && decide (k < (r.sh.length : Int))
theorem isK_true {r : Rom} {k : Int} : isK r k = true ↔ 0 ≤ k ∧ k < (r.sh.length : Int) := by simp [isK]
/-- With another shelf; and charged. -/
def putS (r : Rom) (k : Nat) (s : Shl) : Rom := ⟨s.O, s.fl, r.sh.set k (s.ps, s.op), r.lg, r.st⟩
def dist (a b : Nat) : Int := (max a b : Nat) - (min a b : Nat)
def withS (r : Rom) (k : Nat) (s : Shl) : Rom := ⟨s.O, s.fl, r.sh.set k (s.ps, s.op), r.lg, r.st + 3 + 4 * dist r.fl.length s.fl.length⟩
def takeR (B : Nat → Nat) (r : Rom) (k o : Int) : Rom × Int × Int × Int :=
  if isK r k = true then (let t := takeOut k (B k.toNat) (shelf r k.toNat) o; if t.2.2.2 = 0 then (withS r k.toNat t.1, t.2.1, t.2.2.1, 0) else (r, 0, 0, t.2.2.2)) else (r, 0, 0, 1)
def giveR (r : Rom) (k n at_ : Int) : Rom × Int :=
  if isK r k = true then (let t := giveOut (shelf r k.toNat) n at_; if t.2 = 0 then (withS r k.toNat t.1, 0) else (r, t.2)) else (r, 1)
def ownR (r : Rom) (k n at_ o : Int) : Rom × Int :=
  if isK r k = true then (let t := ownOut (shelf r k.toNat) n at_ o; if t.2 = 0 then (putS r k.toNat t.1, 0) else (r, t.2)) else (r, 1)
def ownerR (r : Rom) (k n at_ : Int) : Int := if isK r k = true then ownerS (shelf r k.toNat) n at_ else -1
def planR (r : Rom) (k : Int) : Option (Int × Int × Int × Int) := if isK r k = true then planS (shelf r k.toNat) else none
def openR (r : Rom) (k : Int) : Int := if isK r k = true then ((shelf r k.toNat).op.length : Int) else 0
def usedR (r : Rom) (k : Int) : Int := if isK r k = true then (usedS (shelf r k.toNat).ps : Int) else 0
def heldR (r : Rom) : Int := (r.O.length : Int) - (r.fl.length : Int)
/-- Does a thing fit? -/
def fitsR (c : Cf) (r : Rom) (size : Int) : Int :=
  if isT c size = true then (if 0 ≤ pick c.xs size then (if openR r (pick c.xs size) = 0 ∧ r.fl = [] then 5 else 0) else (if (r.fl.length : Int) < allOf size c.size then 5 else 0)) else 3
/-- A large thing is placed: its pages. -/
def layN (c : Cf) (r : Rom) (m : Nat) : Rom × Pc :=
  (⟨(takeN m c.cn r.O r.fl).1, (takeN m c.cn r.O r.fl).2.1, r.sh, r.lg ++ [((takeN m c.cn r.O r.fl).2.2.headD 0, (takeN m c.cn r.O r.fl).2.2.tail)], r.st + 4 * m + m - 1⟩, ⟨-1, (takeN m c.cn r.O r.fl).2.2.headD 0, 0, (takeN m c.cn r.O r.fl).2.2.tail⟩)
def placeR (B : Nat → Nat) (c : Cf) (r : Rom) (o size : Int) : Rom × Pc × Int :=
  if o < 0 then (r, noPc, 1) else if fitsR c r size ≠ 0 then (r, noPc, fitsR c r size) else
  if 0 ≤ pick c.xs size then ((takeR B r (pick c.xs size) o).1, ⟨pick c.xs size, (takeR B r (pick c.xs size) o).2.1, (takeR B r (pick c.xs size) o).2.2.1, []⟩, (takeR B r (pick c.xs size) o).2.2.2)
  else ((layN c r (allOf size c.size).toNat).1, (layN c r (allOf size c.size).toNat).2, 0)
/-- A large thing goes. -/
def goN (r : Rom) (p : Int × List Int) : Rom :=
  ⟨(giveN (p.1 :: p.2) r.O r.fl).1, (giveN (p.1 :: p.2) r.O r.fl).2, r.sh, r.lg.filter (· != p), r.st + 4 * ((p.2.length : Int) + 1) + ((p.2.length : Int) + 1) - 1⟩
def dropR (r : Rom) (p : Pc) : Rom × Int :=
  if 0 ≤ p.cl then giveR r p.cl p.n p.i else if p.cl = -1 ∧ (p.n, p.ps) ∈ r.lg then (goN r (p.n, p.ps), 0) else (r, 1)
/-- All pages of large things. -/
def lgAll (l : List (Int × List Int)) : List Int := l.flatMap fun p => p.1 :: p.2
/-- How many pages there are. -/
def shSum (l : List (Ps × List Int)) : Nat := (l.map fun q => q.1.length).sum
/-- What a room keeps to: K pages, n classes, of class k's B k blocks. -/
structure RWf (K n : Nat) (B : Nat → Nat) (r : Rom) : Prop where
  pool : Pw K r.O r.fl
  len : r.sh.length = n
  each : ∀ k, k < n → Sw K (k : Int) (B k) (shelf r k) ∧ Uw (shelf r k)
  lgo : ∀ x ∈ lgAll r.lg, ∃ j : Nat, x = (j : Int) ∧ j < K ∧ r.O[j]? = some (n : Int)
  lgn : (lgAll r.lg).Nodup
  sum : r.fl.length + shSum r.sh + (lgAll r.lg).length = K
theorem sum_set {l : List (Ps × List Int)} {k : Nat} {x y : Ps × List Int} (h : l[k]? = some x) : shSum (l.set k y) + x.1.length = shSum l + y.1.length := by
  induction l generalizing k with
  | nil => simp at h
  | cons z r ih =>
    cases k with
    | zero =>
      simp at h
      subst h
      simp [shSum]
      omega
    | succ k =>
      have := ih (k := k) (by simpa using h)
      simp [shSum] at this ⊢
      omega
section
variable {K n : Nat} {B : Nat → Nat} {r : Rom} {k : Nat} {s : Shl}
theorem shelf_at (h : k < r.sh.length) : r.sh[k]? = some ((shelf r k).ps, (shelf r k).op) := by
  have : r.sh[k]? = some (r.sh[k]'h) := List.getElem?_eq_getElem h
  unfold shelf
  rw [this]
  rfl
theorem shelf_put (h : k < r.sh.length) : shelf (putS r k s) k = s := by
  unfold shelf putS
  simp only [List.getElem?_set_self h]
  rfl
theorem shelf_put_other {j : Nat} (h : j ≠ k) : shelf (putS r k s) j = ⟨s.O, s.fl, (shelf r j).ps, (shelf r j).op⟩ := by
  unfold shelf putS
  simp only [List.getElem?_set_ne (Ne.symm h)]
theorem fit16 {n : Nat} (hn : n ≤ 16) : Pl.Fit (n : Int) := by unfold Pl.Fit; omega
/-- One class's shelf turns. -/
theorem RWf.put (h : RWf K n B r) (hk : k < n) (hs : Sw K (k : Int) (B k) s) (hu : Uw s) (hsp : Spares (k : Int) r.O s.O) (hsum : s.fl.length + s.ps.length = r.fl.length + (shelf r k).ps.length) : RWf K n B (putS r k s) := by
  have hkl : k < r.sh.length := by rw [h.len]; exact hk
  refine ⟨hs.pool, by simp [putS, h.len], fun j hj => ?_, fun x hx => ?_, h.lgn, ?_⟩
  · by_cases e : j = k
    · subst e
      rw [shelf_put hkl]
      exact ⟨hs, hu⟩
    · rw [shelf_put_other e]
      obtain ⟨q1, q2⟩ := h.each j hj
      exact ⟨Sw.other (c := (k : Int)) q1 hs.pool hsp (by omega), q2⟩
  · obtain ⟨j, e, hj, hO⟩ := h.lgo x hx
    exact ⟨j, e, hj, hsp j _ (by omega) (by omega) hO⟩
  · have q1 := sum_set (y := (s.ps, s.op)) (shelf_at hkl)
    have q2 := h.sum
    show s.fl.length + shSum (r.sh.set k (s.ps, s.op)) + _ = K
    simp only [putS] at q1 ⊢
    omega
theorem RWf.steps (h : RWf K n B r) (t : Int) : RWf K n B ⟨r.O, r.fl, r.sh, r.lg, t⟩ := ⟨h.pool, h.len, h.each, h.lgo, h.lgn, h.sum⟩
theorem RWf.with (h : RWf K n B r) (hk : k < n) (hs : Sw K (k : Int) (B k) s) (hu : Uw s) (hsp : Spares (k : Int) r.O s.O) (hsum : s.fl.length + s.ps.length = r.fl.length + (shelf r k).ps.length) : RWf K n B (withS r k s) := (h.put hk hs hu hsp hsum).steps _
/-- Pages that are held are those of all classes, and of all large things. -/
theorem RWf.held (h : RWf K n B r) : heldR r = (shSum r.sh : Nat) + ((lgAll r.lg).length : Nat) := by
  have q1 := h.pool.len
  have q2 := h.sum
  unfold heldR
  omega
/-- A large thing is placed. -/
theorem RWf.lay {c : Cf} {m : Nat} (h : RWf K c.cn B r) (hn : c.cn ≤ 16) (h1 : 1 ≤ m) (hm : m ≤ r.fl.length) : RWf K c.cn B (layN c r m).1 := by
  obtain ⟨f1, f2, f3, f4, f5, f6⟩ := takeN_facts (c := (c.cn : Int)) m r.O r.fl h.pool (by omega) (fit16 hn) hm
  have e : (takeN m c.cn r.O r.fl).2.2.headD 0 :: (takeN m c.cn r.O r.fl).2.2.tail = r.fl.take m := by
    rw [f3]
    cases hfl : r.fl.take m with
    | nil =>
      have : (r.fl.take m).length = 0 := by rw [hfl]; rfl
      rw [List.length_take] at this
      omega
    | cons a b => rfl
  have e2 : lgAll (layN c r m).1.lg = lgAll r.lg ++ r.fl.take m := by
    unfold layN lgAll
    rw [List.flatMap_append, ← e]
    simp
  have hs : ∀ j, j < c.cn → shelf (layN c r m).1 j = ⟨(takeN m c.cn r.O r.fl).1, (takeN m c.cn r.O r.fl).2.1, (shelf r j).ps, (shelf r j).op⟩ := fun j _ => rfl
  refine ⟨f1, h.len, fun j hj => ?_, fun x hx => ?_, ?_, ?_⟩
  · rw [hs j hj]
    obtain ⟨q1, q2⟩ := h.each j hj
    exact ⟨Sw.other (c := (c.cn : Int)) q1 f1 f4 (by omega), q2⟩
  · rw [e2] at hx
    rcases List.mem_append.1 hx with q | q
    · obtain ⟨j, e, hj, hO⟩ := h.lgo x q
      exact ⟨j, e, hj, f6 j hO⟩
    · exact f5 x q
  · rw [e2]
    refine List.nodup_append.2 ⟨h.lgn, h.pool.once.sublist (List.take_sublist _ _), fun a ha b hb e => ?_⟩
    subst e
    obtain ⟨j, e, _, hO⟩ := h.lgo a ha
    obtain ⟨i, e', hi⟩ := h.pool.free a (List.mem_of_mem_take hb)
    have : i = j := by omega
    subst this
    rw [hO] at hi
    have := Option.some.inj hi
    omega
  · rw [e2, List.length_append, List.length_take]
    have := h.sum
    show (takeN m c.cn r.O r.fl).2.1.length + shSum r.sh + _ = K
    rw [f2, List.length_drop]
    omega
theorem lgAll_filter : ∀ (l : List (Int × List Int)) (p : Int × List Int), (lgAll l).Nodup → p ∈ l → (∀ x ∈ lgAll (l.filter (· != p)), x ∈ lgAll l ∧ x ∉ (p.1 :: p.2)) ∧ (lgAll (l.filter (· != p))).Nodup ∧ (lgAll (l.filter (· != p))).length + (p.2.length + 1) = (lgAll l).length
  | [], _, _, h => by simp at h
  | q :: r, p, hn, hp => by
    have e : lgAll (q :: r) = (q.1 :: q.2) ++ lgAll r := by simp [lgAll]
    rw [e] at hn ⊢
    obtain ⟨n1, n2, n3⟩ := List.nodup_append.1 hn
    by_cases hq : q = p
    · subst hq
      have hr : r.filter (· != q) = r := by
        rw [List.filter_eq_self]
        intro z hz
        have : z ≠ q := fun e => by
          subst e
          exact n3 z.1 (by simp) z.1 (List.mem_flatMap.2 ⟨z, hz, by simp⟩) rfl
        simpa using this
      rw [List.filter_cons, if_neg (by simp), hr]
      refine ⟨fun x hx => ⟨List.mem_append_right _ hx, fun m => n3 x m x hx rfl⟩, n2, ?_⟩
      rw [List.length_append, List.length_cons]
      omega
    · have hp' : p ∈ r := by
        rcases List.mem_cons.1 hp with z | z
        · exact absurd z.symm hq
        · exact z
      obtain ⟨i1, i2, i3⟩ := lgAll_filter r p n2 hp'
      have e2 : lgAll ((q :: r).filter (· != p)) = (q.1 :: q.2) ++ lgAll (r.filter (· != p)) := by
        rw [List.filter_cons, if_pos (by simpa using hq)]
        simp [lgAll]
      rw [e2]
      refine ⟨fun x hx => ?_, List.nodup_append.2 ⟨n1, i2, fun a ha b hb => n3 a ha b (i1 b hb).1⟩, ?_⟩
      · rcases List.mem_append.1 hx with z | z
        · exact ⟨List.mem_append_left _ z, fun m => n3 x z x (List.mem_flatMap.2 ⟨p, hp', m⟩) rfl⟩
        · exact ⟨List.mem_append_right _ (i1 x z).1, (i1 x z).2⟩
      · rw [List.length_append, List.length_append]
        omega
/-- A large thing goes. -/
theorem RWf.go {p : Int × List Int} (h : RWf K n B r) (hp : p ∈ r.lg) : RWf K n B (goN r p) := by
  obtain ⟨i1, i2, i3⟩ := lgAll_filter r.lg p h.lgn hp
  have hsub : ∀ x ∈ (p.1 :: p.2), x ∈ lgAll r.lg := fun x hx => List.mem_flatMap.2 ⟨p, hp, hx⟩
  have hnd : (p.1 :: p.2).Nodup := (List.pairwise_flatMap.1 h.lgn).1 p hp
  obtain ⟨f1, f2, f3, f4⟩ := giveN_facts (c := (n : Int)) (p.1 :: p.2) r.O r.fl h.pool (by omega) hnd (fun x hx => by
    obtain ⟨j, e, _, hO⟩ := h.lgo x (hsub x hx)
    exact ⟨j, e, hO⟩)
  refine ⟨f1, h.len, fun j hj => ?_, fun x hx => ?_, i2, ?_⟩
  · obtain ⟨q1, q2⟩ := h.each j hj
    exact ⟨Sw.other (c := (n : Int)) q1 f1 f3 (by omega), q2⟩
  · obtain ⟨q1, q2⟩ := i1 x hx
    obtain ⟨j, e, hj, hO⟩ := h.lgo x q1
    subst e
    exact ⟨j, rfl, hj, f4 j hO q2⟩
  · have := h.sum
    show (giveN (p.1 :: p.2) r.O r.fl).2.length + shSum r.sh + (lgAll (r.lg.filter (· != p))).length = K
    rw [f2]
    simp
    omega
end
end Go.Proofs.Ytfkegbipfekbdaa.Room
