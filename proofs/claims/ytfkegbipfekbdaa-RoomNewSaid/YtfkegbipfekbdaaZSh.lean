import Derived.Test.YtfkegbipfekbdaaZShNum
import Derived.Test.YtfkegbipfekbdaaZRnSt
import Derived.Test.YtfkegbipfekbdaaZPlGive
import Derived.Test.YtfkegbipfekbdaaZPgTake
/-
  Package shelf, its ground: what a Shelf is in memory ('Sr', 'Sm'): its pool, its ring of open pages, its map of pages, each page's own blocks; and how each part is kept while another one turns. No statement about a Go function.
-/
namespace Go.Proofs.Ytfkegbipfekbdaa.Sh
open Go.ChangeShapes Go.WideShapes Go.ChangeAt Go.RowKit
open Go.Maps (Keyed)
set_option maxRecDepth 100000

/-! ### The map of pages -/
/-- How a page's pointer reads: as its block's number; -1 for nil. -/
def ptrElem : Value → Option (DataW Unit × List MemPlace)
  | .pointer none => some (.lit (.int .i64 (-1)), [])
  | .pointer (some a) => if a = ⟨a.block, 0, none⟩ then some (.lit (.int .i64 (a.block : Int)), []) else none
  | _ => none
theorem ptr_some (p : Nat) : ptrElem (.pointer (some ⟨p, 0, none⟩)) = some (.lit (.int .i64 (p : Int)), []) := by simp [ptrElem]
theorem ptr_inv {v : Value} {z : Int} {l : List MemPlace} (h : ptrElem v = some (.lit (.int .i64 z), l)) : (z = -1 ∧ v = .pointer none) ∨ ∃ p : Nat, z = (p : Int) ∧ v = .pointer (some ⟨p, 0, none⟩) := by
  unfold ptrElem at h
  split at h
  · simp at h
    exact Or.inl ⟨h.1.symm, rfl⟩
  · rename_i a
    split at h
    · rename_i e
      simp at h
      exact Or.inr ⟨a.block, h.1.symm, by rw [← e]⟩
    · cases h
  · cases h
abbrev Adr := Int → Nat × Nat × Nat
def updA (A : Adr) (n : Int) (q : Nat × Nat × Nat) : Adr := fun i => if i = n then q else A i
theorem updA_same (A : Adr) (n : Int) (q : Nat × Nat × Nat) : updA A n q n = q := if_pos rfl
theorem updA_other (A : Adr) {n i : Int} (q : Nat × Nat × Nat) (h : i ≠ n) : updA A n q i = A i := if_neg h
def adr (ps : Ps) (A : Adr) (i : Int) : Int := if i ∈ nums ps then ((A i).1 : Int) else -1
structure Mk (D : DataW Unit) (ps : Ps) (A : Adr) : Prop where
  has : ∀ i : Int, Maps.has D (.int .i64 i) = decide (i ∈ nums ps)
  at_ : ∀ i : Int, D.atKey (.int .i64 i) (.lit (.int .i64 (-1))) = .lit (.int .i64 (adr ps A i))
  size : Maps.size D = ps.length
/-- Block m is the map of the pages ps, whose blocks A tells. -/
def Mp (w : World) (m : Nat) (ps : Ps) (A : Adr) : Prop := ∃ D : DataW Unit, w.ownsMap Try.prog 3 ptrElem m ps.length D ∧ Mk D ps A
/-- What is looked up. -/
def ptr (ps : Ps) (A : Adr) (i : Int) : Option Addr := if i ∈ nums ps then some ⟨(A i).1, 0, none⟩ else none
theorem zeroPtr (w : World) : (zeroValue 91).run Try.prog w = .ok (.pointer none) w := by kernel_rfl
section
variable {w w' : World} {m : Nat} {ps : Ps} {A : Adr} {S : Nat → Prop} {n : Int} {X : List Int}
theorem Mp.lt (h : Mp w m ps A) : m < w.heap.size := by obtain ⟨D, h, _⟩ := h; exact h.lt
theorem Mp.but (h : Mp w m ps A) (hb : But S w w') (hn : ¬ S m) : Mp w' m ps A := by
  have hl := h.lt
  obtain ⟨D, ⟨es, clock, he, r⟩, k⟩ := h
  exact ⟨D, ⟨es, clock, (hb.block m hl hn).trans he, r⟩, k⟩
theorem Mp.nocell (h : Mp w m ps A) (o : Nat) : w.cell? ⟨m, o, none⟩ = none := by
  obtain ⟨D, ⟨es, clock, he, r⟩, k⟩ := h
  simp [World.cell?, he]
theorem Mp.look (h : Mp w m ps A) (hn : Pl.Fit n) : (Instr.lookup 97 (.map (some m)) (.int .i64 n) false).run Try.prog w = .ok (.pointer (ptr ps A n)) w := by
  obtain ⟨D, ho, hk⟩ := h
  obtain ⟨v, l, hr, hv⟩ := ho.lookup Pg.intKeys Try.underlying97 (zeroPtr w) (by rfl : ptrElem (.pointer none) = some (.lit (.int .i64 (-1)), [])) (Pg.key64 hn)
  rw [hr]
  rw [hk.at_] at hv
  unfold adr at hv
  unfold ptr
  by_cases q : n ∈ nums ps
  · rw [if_pos q] at hv ⊢
    rcases ptr_inv hv with ⟨e, _⟩ | ⟨p, e, rfl⟩
    · omega
    · have : p = (A n).1 := by omega
      rw [this]
  · rw [if_neg q] at hv ⊢
    rcases ptr_inv hv with ⟨_, rfl⟩ | ⟨p, e, _⟩
    · rfl
    · omega
theorem Mp.len (h : Mp w m ps A) (ty : TypeId) : (Builtin.len_ #[97] ty #[.map (some m)]).run Try.prog w = .ok (.int .i64 (ps.length : Int)) w := by
  obtain ⟨D, ho, hk⟩ := h
  rw [ho.len Try.underlying97 ty, hk.size]
theorem Mp.put (h : Mp w m ps A) (hn : n ∉ nums ps) (hf : Pl.Fit n) (hl : ps.length ≤ 1024) (q : Nat × Nat × Nat) (X : List Int) :
    ∃ w', (Instr.mapUpdate 97 (.map (some m)) (.int .i64 n) (.pointer (some ⟨q.1, 0, none⟩))).run Try.prog w = .ok () w' ∧ Mp w' m (ps ++ [(n, X)]) (updA A n q) ∧ But (· = m) w w' := by
  obtain ⟨D, ho, hk⟩ := h
  obtain ⟨w', hr, h1, h2⟩ := ho.store Pg.intKeys Try.underlying97 (by unfold maxLen; omega) (Pg.key64 hf) (ptr_some q.1)
  have hd := ho.tidy Pg.intKeys
  have hm : ∀ i, i ∈ nums (ps ++ [(n, X)]) ↔ i ∈ nums ps ∨ i = n := fun i => by simp [nums]
  refine ⟨w', hr, ⟨_, by rw [List.length_append]; exact h1, fun i => ?_, fun i => ?_, ?_⟩, Pg.turned_but h2⟩
  · by_cases e : i = n
    · subst e
      rw [Maps.has_put_same hd.isMap (Pg.keyLit _)]
      simp [hm]
    · rw [Maps.has_put_other (Pg.ne_key e), hk.has]
      simp [hm, e]
  · unfold adr
    by_cases e : i = n
    · subst e
      rw [Maps.atKey_put_same hd.isMap (Pg.keyLit _), if_pos ((hm i).2 (Or.inr rfl)), updA_same]
    · rw [Maps.atKey_put_other (Pg.ne_key e), hk.at_, updA_other A q e]
      unfold adr
      by_cases z : i ∈ nums ps
      · rw [if_pos z, if_pos ((hm i).2 (Or.inl z))]
      · rw [if_neg z, if_neg (fun y => by rcases (hm i).1 y with y | y; exact z y; exact e y)]
  · rw [Maps.size_put hd, hk.has, hk.size]
    simp [hn]
theorem Mp.del (h : Mp w m ps A) (hnd : (nums ps).Nodup) (hn : n ∈ nums ps) (hf : Pl.Fit n) (ty : TypeId) :
    ∃ w', (Builtin.delete_ #[97, 3] ty #[.map (some m), .int .i64 n]).run Try.prog w = .ok (.tuple #[]) w' ∧ Mp w' m (delP ps n) A ∧ But (· = m) w w' := by
  obtain ⟨D, ho, hk⟩ := h
  obtain ⟨w', hr, h1, h2⟩ := ho.drop Pg.intKeys Try.underlying97 (Pg.key64 hf) ty
  have hd := ho.tidy Pg.intKeys
  have hm : ∀ i, i ∈ nums (delP ps n) ↔ i ≠ n ∧ i ∈ nums ps := fun i => by rw [nums_del, List.mem_filter]; simp [and_comm]
  have hsz := Maps.size_del (k := .int .i64 n) hd
  rw [hk.has, hk.size, ← len_del hnd hn] at hsz
  have kp : Mk (D.del (.int .i64 n)) (delP ps n) A := by
    refine ⟨fun i => ?_, fun i => ?_, ?_⟩
    · by_cases e : i = n
      · subst e
        rw [Maps.has_del_same]
        simp [hm]
      · rw [Maps.has_del_other (Pg.ne_key e), hk.has]
        simp [hm, e]
    · unfold adr
      by_cases e : i = n
      · subst e
        rw [Maps.atKey_del_same, if_neg (fun y => ((hm i).1 y).1 rfl)]
      · rw [Maps.atKey_del_other (Pg.ne_key e), hk.at_]
        unfold adr
        by_cases z : i ∈ nums ps
        · rw [if_pos z, if_pos ((hm i).2 ⟨e, z⟩)]
        · rw [if_neg z, if_neg (fun y => z ((hm i).1 y).2)]
    · simp [hn] at hsz
      exact hsz
  refine ⟨w', hr, ⟨_, ?_, kp⟩, Pg.turned_but h2⟩
  rw [← kp.size]
  exact Pg.owns_tight h1
theorem Mp.set (h : Mp w m ps A) (Y : List Int) : Mp w m (setP ps n Y) A := by
  obtain ⟨D, ho, hk⟩ := h
  refine ⟨D, by rw [len_set]; exact ho, fun i => by rw [nums_set]; exact hk.has i, fun i => ?_, by rw [len_set]; exact hk.size⟩
  have := hk.at_ i
  unfold adr at this ⊢
  rw [nums_set]
  exact this
end

/-! ### The ring of open pages -/
def Rop (w : World) (p a b N : Nat) (op : List Int) : Prop := Rn.Rg w p a b N 1 op.length [op]
section
variable {w w' : World} {p a b N C : Nat} {op : List Int}
theorem ln_one (i : Nat) : Rn.ln [op] i ≤ op.length := by
  unfold Rn.ln
  cases i with
  | zero => simp
  | succ k => simp
theorem Rop.of (h : Rn.Rg w p a b N 1 C [op]) : Rop w p a b N op := ⟨⟨h.wf.len, h.wf.uniq, h.wf.fit, ln_one⟩, h.rm⟩
theorem at_one {i j : Nat} {n : Int} : Rn.At [op] i j n ↔ i = 0 ∧ op[j]? = some n := by
  unfold Rn.At
  cases i with
  | zero => simp
  | succ k => simp
theorem Rop.lens : Rn.lenI [op] 0 = (op.length : Int) := by simp [Rn.lenI, Rn.inB, Rn.ln]
theorem Rop.first : Rn.firstI [op] 0 = op.headD (-1) := by
  simp only [Rn.firstI, Rn.firstL, Rn.gt, Rn.inB]
  cases op <;> simp
theorem Rop.last : Rn.lastI [op] 0 = op.getLastD (-1) := by
  simp only [Rn.lastI, Rn.lastL, Rn.gt, Rn.ln, Rn.inB]
  rw [List.getLastD_eq_getLast?, List.getLast?_eq_getElem?]
  simp
theorem Rop.nodup (h : Rop w p a b N op) : op.Nodup := by
  refine List.pairwise_iff_getElem.2 fun i j hi hj hij e => ?_
  have h1 : Rn.At [op] 0 j op[j] := at_one.2 ⟨rfl, List.getElem?_eq_getElem hj⟩
  have h2 : Rn.At [op] 0 i op[j] := at_one.2 ⟨rfl, by rw [← e]; exact List.getElem?_eq_getElem hi⟩
  have := (h.wf.uniq _ _ _ _ _ h1 h2).2
  omega
theorem Rop.few (h : Rop w p a b N op) : op.length ≤ 4096 := Nat.le_trans (nodup_le N op h.nodup fun x hx => by
  obtain ⟨j, hj, e⟩ := List.getElem_of_mem hx
  have := h.wf.fit 0 j x (at_one.2 ⟨rfl, by rw [← e]; exact List.getElem?_eq_getElem hj⟩)
  exact ⟨x.toNat, by omega, by omega⟩) h.rm.n2
theorem Rop.push (h : Rop w p a b N op) {n : Nat} (hn : n < N) (hno : (n : Int) ∉ op) :
    Calls Try.prog 86 #[.pointer (some ⟨p, 0, none⟩), .int .i64 0, .int .i64 (n : Int)] w fun e w' => e = .returned (.int .i64 0) ∧ Rop w' p a b N ((n : Int) :: op) ∧ But (Rn.Own a b) w w' := by
  have hf := h.few
  refine (Rn.rgPush h (by omega) 0 (n : Int)).mono ?_
  have hof : Rn.ofL [op] (n : Int) = -1 := Rn.of_no fun i j q => hno (List.mem_of_getElem? (at_one.1 q).2)
  have e : Rn.pushOut N [op] 0 (n : Int) = ([(n : Int) :: op], 0) := by
    unfold Rn.pushOut
    rw [if_pos ⟨by simp [Rn.inB], Rn.inB_of hn⟩, if_pos hof]
    rfl
  rw [e]
  rintro e w' ⟨rfl, r, hb⟩
  exact ⟨rfl, Rop.of r, hb⟩
theorem Rop.drop (h : Rop w p a b N op) {n : Nat} (hn : n < N) :
    Calls Try.prog 64 #[.pointer (some ⟨p, 0, none⟩), .int .i64 (n : Int)] w fun e w' => (∃ z, e = .returned (.int .i64 z)) ∧ Rop w' p a b N (op.erase (n : Int)) ∧ But (Rn.Own a b) w w' := by
  have hf := h.few
  refine (Rn.rgDrop h (by omega) (n : Int)).mono ?_
  have e : (Rn.dropOut N [op] (n : Int)).1 = [op.erase (n : Int)] := by
    unfold Rn.dropOut
    rw [if_pos (Rn.inB_of hn)]
    by_cases hm : (n : Int) ∈ op
    · obtain ⟨j, hj, e⟩ := List.getElem_of_mem hm
      have hj' : op[j]? = some (n : Int) := by rw [← e]; exact List.getElem?_eq_getElem hj
      rw [Rn.Wf.plc h.wf (at_one.2 ⟨rfl, hj'⟩)]
      show [op.eraseIdx j] = _
      rw [erase_at h.nodup hj']
    · rw [Rn.plc_no fun i j q => hm (List.mem_of_getElem? (at_one.1 q).2), List.erase_of_not_mem hm]
  rintro e' w' ⟨rfl, r, hb⟩
  rw [e] at r
  exact ⟨⟨_, rfl⟩, Rop.of r, hb⟩
end

/-! ### The shelf -/
/-- Where a shelf lies, and what it is of: its block, its pool's two, its ring's three, its map's; the pool's pages, the blocks a page, the class. -/
structure Fx where
  s : Nat
  pp : Nat
  pa : Nat
  rp : Nat
  ra : Nat
  rb : Nat
  mm : Nat
  K : Nat
  B : Nat
  c : Int
abbrev Lab := Nat → Option Int
/-- The shelf's own cells. -/
structure Cl (w : World) (x : Fx) (u : Int) : Prop where
  k0 : w.cell? ⟨x.s, 0, none⟩ = some (.pointer (some ⟨x.pp, 0, none⟩))
  k1 : w.cell? ⟨x.s, 1, none⟩ = some (.int .i64 x.c)
  k2 : w.cell? ⟨x.s, 2, none⟩ = some (.int .i64 (x.B : Int))
  k3 : w.cell? ⟨x.s, 3, none⟩ = some (.map (some x.mm))
  k4 : w.cell? ⟨x.s, 4, none⟩ = some (.pointer (some ⟨x.rp, 0, none⟩))
  k5 : w.cell? ⟨x.s, 5, none⟩ = some (.int .i64 u)
  f5 : w.frozen? ⟨x.s, 5, none⟩ = false
/-- Whose each block is. -/
structure Lay (x : Fx) (ps : Ps) (A : Adr) (lab : Lab) : Prop where
  s : lab x.s = some (-1)
  pp : lab x.pp = some (-2)
  pa : lab x.pa = some (-2)
  rp : lab x.rp = some (-3)
  ra : lab x.ra = some (-3)
  rb : lab x.rb = some (-3)
  mm : lab x.mm = some (-4)
  pg : ∀ n ∈ nums ps, 0 ≤ n ∧ lab (A n).1 = some n ∧ lab (A n).2.1 = some n ∧ lab (A n).2.2 = some n
/-- A shelf in memory: its parts, each as it stands. -/
structure Sr (w : World) (x : Fx) (A : Adr) (lab : Lab) (O fl : List Int) (ps : Ps) (op : List Int) (u : Int) : Prop where
  cl : Cl w x u
  pool : Pl.Pm w x.pp x.pa x.K O fl
  ring : Rop w x.rp x.ra x.rb x.K op
  map : Mp w x.mm ps A
  pgs : ∀ n X, (n, X) ∈ ps → Pg.Pm w (A n).1 (A n).2.1 (A n).2.2 X
  lay : Lay x ps A lab
  fin : ∀ i, lab i ≠ none → i < w.heap.size
  b1 : 1 ≤ x.B
  b2 : x.B ≤ 512
/-- No block of these is a closure's cell. -/
def Far (w : World) (S : Nat → Prop) : Prop := ∀ i, S i → i < w.heap.size → ∀ v, w.cell? ⟨i, 0, none⟩ = some (.int .i64 v) → w.cell? ⟨i, 1, none⟩ ≠ none
section
variable {w w' : World} {x : Fx} {A : Adr} {lab : Lab} {O fl op : List Int} {ps : Ps} {u : Int} {S : Nat → Prop} {t : Int}
theorem Cl.but (h : Cl w x u) (hb : But S w w') (hn : ¬ S x.s) : Cl w' x u := by
  have hl : x.s < w.heap.size := lt_of_cell (p := ⟨x.s, 0, none⟩) h.k0
  exact ⟨(hb.cell (p := ⟨x.s, 0, none⟩) hl hn).trans h.k0, (hb.cell (p := ⟨x.s, 1, none⟩) hl hn).trans h.k1, (hb.cell (p := ⟨x.s, 2, none⟩) hl hn).trans h.k2, (hb.cell (p := ⟨x.s, 3, none⟩) hl hn).trans h.k3, (hb.cell (p := ⟨x.s, 4, none⟩) hl hn).trans h.k4, (hb.cell (p := ⟨x.s, 5, none⟩) hl hn).trans h.k5, (hb.frozen (p := ⟨x.s, 5, none⟩) hl hn).trans h.f5⟩
theorem Sr.kS (h : Sr w x A lab O fl ps op u) (hb : But S w w') (hS : ∀ i, S i → lab i = some t) (ht : t ≠ -1) : Cl w' x u :=
  h.cl.but hb fun q => by have := hS _ q; rw [h.lay.s] at this; exact ht (Option.some.inj this).symm
theorem Sr.kP (h : Sr w x A lab O fl ps op u) (hb : But S w w') (hS : ∀ i, S i → lab i = some t) (ht : t ≠ -2) (hF : Far w S) : Pl.Pm w' x.pp x.pa x.K O fl :=
  h.pool.but hb (fun q => by have := hS _ q; rw [h.lay.pp] at this; exact ht (Option.some.inj this).symm) (fun q => by have := hS _ q; rw [h.lay.pa] at this; exact ht (Option.some.inj this).symm) hF
theorem Sr.kR (h : Sr w x A lab O fl ps op u) (hb : But S w w') (hS : ∀ i, S i → lab i = some t) (ht : t ≠ -3) : Rop w' x.rp x.ra x.rb x.K op :=
  Rn.Rg.but h.ring hb (fun q => by have := hS _ q; rw [h.lay.rp] at this; exact ht (Option.some.inj this).symm) (fun q => by have := hS _ q; rw [h.lay.ra] at this; exact ht (Option.some.inj this).symm) (fun q => by have := hS _ q; rw [h.lay.rb] at this; exact ht (Option.some.inj this).symm)
theorem Sr.kM (h : Sr w x A lab O fl ps op u) (hb : But S w w') (hS : ∀ i, S i → lab i = some t) (ht : t ≠ -4) : Mp w' x.mm ps A :=
  h.map.but hb fun q => by have := hS _ q; rw [h.lay.mm] at this; exact ht (Option.some.inj this).symm
theorem Sr.kG (h : Sr w x A lab O fl ps op u) (hb : But S w w') (hS : ∀ i, S i → lab i = some t) {n : Int} {X : List Int} (hX : (n, X) ∈ ps) (hn : n ≠ t) : Pg.Pm w' (A n).1 (A n).2.1 (A n).2.2 X := by
  obtain ⟨_, l1, l2, l3⟩ := h.lay.pg n (mem_nums hX)
  exact (h.pgs n X hX).but hb (fun q => by have := hS _ q; rw [l1] at this; exact hn (Option.some.inj this)) (fun q => by have := hS _ q; rw [l2] at this; exact hn (Option.some.inj this)) (fun q => by have := hS _ q; rw [l3] at this; exact hn (Option.some.inj this))
theorem Sr.kF (h : Sr w x A lab O fl ps op u) (hb : But S w w') : ∀ i, lab i ≠ none → i < w'.heap.size := fun i hi => Nat.lt_of_lt_of_le (h.fin i hi) hb.size
/-- Kept while nothing of it turns. -/
theorem Sr.but (h : Sr w x A lab O fl ps op u) (hb : But S w w') (hS : ∀ i, S i → lab i = none) (hF : Far w S) : Sr w' x A lab O fl ps op u := by
  have no : ∀ i, lab i ≠ none → ¬ S i := fun i hi q => hi (hS i q)
  have l := h.lay
  refine ⟨h.cl.but hb (no _ (by rw [l.s]; simp)), h.pool.but hb (no _ (by rw [l.pp]; simp)) (no _ (by rw [l.pa]; simp)) hF, Rn.Rg.but h.ring hb (no _ (by rw [l.rp]; simp)) (no _ (by rw [l.ra]; simp)) (no _ (by rw [l.rb]; simp)), h.map.but hb (no _ (by rw [l.mm]; simp)), fun n X hX => ?_, h.lay, h.kF hb, h.b1, h.b2⟩
  obtain ⟨_, l1, l2, l3⟩ := l.pg n (mem_nums hX)
  exact (h.pgs n X hX).but hb (no _ (by rw [l1]; simp)) (no _ (by rw [l2]; simp)) (no _ (by rw [l3]; simp))
theorem Sr.below (h : Sr w x A lab O fl ps op u) (hb : Below w.heap.size w w') : Sr w' x A lab O fl ps op u := h.but (Below.but hb fun _ => False) (fun _ q => q.elim) (fun _ q => q.elim)
theorem Sr.drewN (h : Sr w x A lab O fl ps op u) (k : Nat) : Sr (w.drewN k) x A lab O fl ps op u := h.but ((But.refl (fun _ => False) w).drewN k) (fun _ q => q.elim) (fun _ q => q.elim)
/-- The count is stored. -/
theorem Sr.count (h : Sr w x A lab O fl ps op u) (v : Int) : Sr (w.setCell ⟨x.s, 5, none⟩ (.int .i64 v)) x A lab O fl ps op v ∧ But (fun i => lab i ≠ none) w (w.setCell ⟨x.s, 5, none⟩ (.int .i64 v)) := by
  have hb : But (· = x.s) w (w.setCell ⟨x.s, 5, none⟩ (.int .i64 v)) := (But.refl (· = x.s) w).setCell (p := ⟨x.s, 5, none⟩) (fun _ => rfl) _
  have hS : ∀ i, i = x.s → lab i = some (-1) := fun i e => by rw [e]; exact h.lay.s
  have c := h.cl
  have oth : ∀ o, o ≠ 5 → (w.setCell ⟨x.s, 5, none⟩ (.int .i64 v)).cell? ⟨x.s, o, none⟩ = w.cell? ⟨x.s, o, none⟩ := fun o ho => World.cell?_setCell_other w _ _ _ (by simp <;> omega)
  refine ⟨⟨⟨(oth 0 (by omega)).trans c.k0, (oth 1 (by omega)).trans c.k1, (oth 2 (by omega)).trans c.k2, (oth 3 (by omega)).trans c.k3, (oth 4 (by omega)).trans c.k4, World.cell?_setCell_same w _ _ c.k5, by simpa using c.f5⟩, h.kP hb hS (by omega) ?_, h.kR hb hS (by omega), h.kM hb hS (by omega), fun n X hX => h.kG hb hS hX ?_, h.lay, h.kF hb, h.b1, h.b2⟩, hb.mono fun i _ e => ?_⟩
  · intro i e _ v hv
    rw [e, c.k1]; simp
  · have := (h.lay.pg n (mem_nums hX)).1
    omega
  · rw [e, h.lay.s]; simp
/-- A page's blocks turn. -/
theorem Sr.page (h : Sr w x A lab O fl ps op u) {n : Int} {X Y : List Int} (hX : (n, X) ∈ ps) (hp : Pg.Pm w' (A n).1 (A n).2.1 (A n).2.2 Y) (hb : But (fun i => i = (A n).2.1 ∨ i = (A n).2.2) w w') :
    Sr w' x A lab O fl (setP ps n Y) op u ∧ But (fun i => lab i ≠ none) w w' := by
  obtain ⟨n0, l1, l2, l3⟩ := h.lay.pg n (mem_nums hX)
  have hS : ∀ i, (i = (A n).2.1 ∨ i = (A n).2.2) → lab i = some n := fun i e => by
    rcases e with e | e
    · rw [e]; exact l2
    · rw [e]; exact l3
  have hF : Far w (fun i => i = (A n).2.1 ∨ i = (A n).2.2) := fun i e _ v hv => by
    have hg := h.pgs n X hX
    rcases e with e | e
    · subst e
      obtain ⟨W, hW⟩ := hg.bm
      rw [hW.c 1 (by omega)]; simp
    · subst e
      obtain ⟨D, ⟨es, clock, he, _⟩, _⟩ := hg.om
      simp [World.cell?, he] at hv
  refine ⟨⟨h.kS hb hS (by omega), h.kP hb hS (by omega) hF, h.kR hb hS (by omega), (h.kM hb hS (by omega)).set Y, fun m Z hm => ?_, ?_, h.kF hb, h.b1, h.b2⟩, hb.mono fun i _ e => by rw [hS i e]; simp⟩
  · rcases mem_set.1 hm with ⟨rfl, rfl, _⟩ | ⟨q1, q2⟩
    · exact hp
    · exact h.kG hb hS q2 q1
  · have l := h.lay
    exact ⟨l.s, l.pp, l.pa, l.rp, l.ra, l.rb, l.mm, by rw [nums_set]; exact l.pg⟩
/-- The ring turns. -/
theorem Sr.turn (h : Sr w x A lab O fl ps op u) {op' : List Int} (hr : Rop w' x.rp x.ra x.rb x.K op') (hb : But (Rn.Own x.ra x.rb) w w') :
    Sr w' x A lab O fl ps op' u ∧ But (fun i => lab i ≠ none) w w' := by
  have hS : ∀ i, Rn.Own x.ra x.rb i → lab i = some (-3) := fun i e => by
    rcases e with e | e
    · rw [e]; exact h.lay.ra
    · rw [e]; exact h.lay.rb
  have hF : Far w (Rn.Own x.ra x.rb) := fun i e _ v hv => by
    have hg := h.ring.rm
    have n1 := hg.n1
    rcases e with e | e
    · subst e; rw [hg.cn 1 (by omega)]; simp
    · subst e; rw [hg.cl 1 (by omega)]; simp
  refine ⟨⟨h.kS hb hS (by omega), h.kP hb hS (by omega) hF, hr, h.kM hb hS (by omega), fun m Z hm => h.kG hb hS hm ?_, h.lay, h.kF hb, h.b1, h.b2⟩, hb.mono fun i _ e => by rw [hS i e]; simp⟩
  have := (h.lay.pg m (mem_nums hm)).1
  omega
/-- The pool turns. -/
theorem Sr.swim (h : Sr w x A lab O fl ps op u) {O' fl' : List Int} (hr : Pl.Pm w' x.pp x.pa x.K O' fl') (hb : But (Pl.Own x.pp x.pa) w w') :
    Sr w' x A lab O' fl' ps op u ∧ But (fun i => lab i ≠ none) w w' := by
  have hS : ∀ i, Pl.Own x.pp x.pa i → lab i = some (-2) := fun i e => by
    rcases e with e | e
    · rw [e]; exact h.lay.pp
    · rw [e]; exact h.lay.pa
  refine ⟨⟨h.kS hb hS (by omega), hr, h.kR hb hS (by omega), h.kM hb hS (by omega), fun m Z hm => h.kG hb hS hm ?_, h.lay, h.kF hb, h.b1, h.b2⟩, hb.mono fun i _ e => by rw [hS i e]; simp⟩
  have := (h.lay.pg m (mem_nums hm)).1
  omega
/-- A page comes into the map: its blocks are none of the shelf's. -/
theorem Sr.put (h : Sr w x A lab O fl ps op u) {n : Int} {X : List Int} (q : Nat × Nat × Nat) (n0 : 0 ≤ n) (hg : Pg.Pm w q.1 q.2.1 q.2.2 X) (f1 : lab q.1 = none) (f2 : lab q.2.1 = none) (f3 : lab q.2.2 = none) (hno : n ∉ nums ps)
    (hm : Mp w' x.mm (ps ++ [(n, X)]) (updA A n q)) (hb : But (· = x.mm) w w') :
    Sr w' x (updA A n q) (fun i => if i = q.1 ∨ i = q.2.1 ∨ i = q.2.2 then some n else lab i) O fl (ps ++ [(n, X)]) op u ∧ But (fun i => lab i ≠ none) w w' := by
  have hS : ∀ i, i = x.mm → lab i = some (-4) := fun i e => by rw [e]; exact h.lay.mm
  have hF : Far w (· = x.mm) := fun i e _ v hv => by
    subst e
    rw [h.map.nocell] at hv
    cases hv
  have l := h.lay
  have other : ∀ i v, lab i = some v → (if i = q.1 ∨ i = q.2.1 ∨ i = q.2.2 then some n else lab i) = some v := fun i v hi => by
    rw [if_neg, hi]
    rintro (e | e | e)
    · rw [e, f1] at hi; cases hi
    · rw [e, f2] at hi; cases hi
    · rw [e, f3] at hi; cases hi
  have lt1 : q.1 < w.heap.size := hg.lt
  have lt2 : q.2.1 < w.heap.size := hg.bm.size
  have lt3 : q.2.2 < w.heap.size := hg.om.lt
  have hsz := hb.size
  refine ⟨⟨h.kS hb hS (by omega), h.kP hb hS (by omega) hF, h.kR hb hS (by omega), hm, fun m Z hmz => ?_, ⟨other _ _ l.s, other _ _ l.pp, other _ _ l.pa, other _ _ l.rp, other _ _ l.ra, other _ _ l.rb, other _ _ l.mm, fun m hmm => ?_⟩, fun i hi => ?_, h.b1, h.b2⟩, hb.mono fun i _ e => by rw [hS i e]; simp⟩
  · rcases List.mem_append.1 hmz with z | z
    · have hmn : m ≠ n := fun e => hno (by rw [← e]; exact mem_nums z)
      have := h.kG hb hS z (by have := (l.pg m (mem_nums z)).1; omega)
      rw [updA_other A q hmn]
      exact this
    · simp at z
      obtain ⟨rfl, rfl⟩ := z
      rw [updA_same]
      exact hg.but hb (fun e => by have := hS _ e; rw [f1] at this; cases this) (fun e => by have := hS _ e; rw [f2] at this; cases this) (fun e => by have := hS _ e; rw [f3] at this; cases this)
  · by_cases e : m = n
    · subst e
      rw [updA_same]
      simp [n0]
    · have hmm' : m ∈ nums ps := by
        unfold nums at hmm
        rw [List.map_append, List.mem_append] at hmm
        rcases hmm with z | z
        · exact z
        · simp at z; exact absurd z e
      obtain ⟨m0, l1, l2, l3⟩ := l.pg m hmm'
      rw [updA_other A q e]
      exact ⟨m0, other _ _ l1, other _ _ l2, other _ _ l3⟩
  · split at hi
    · rename_i e
      rcases e with e | e | e <;> omega
    · have := h.fin i hi
      omega
/-- A page goes out of the map. -/
theorem Sr.del (h : Sr w x A lab O fl ps op u) {n : Int} (hm : Mp w' x.mm (delP ps n) A) (hb : But (· = x.mm) w w') :
    Sr w' x A lab O fl (delP ps n) op u ∧ But (fun i => lab i ≠ none) w w' := by
  have hS : ∀ i, i = x.mm → lab i = some (-4) := fun i e => by rw [e]; exact h.lay.mm
  have hF : Far w (· = x.mm) := fun i e _ v hv => by
    subst e
    rw [h.map.nocell] at hv
    cases hv
  have l := h.lay
  refine ⟨⟨h.kS hb hS (by omega), h.kP hb hS (by omega) hF, h.kR hb hS (by omega), hm, fun m Z hmz => h.kG hb hS (mem_del.1 hmz).2 ?_, ⟨l.s, l.pp, l.pa, l.rp, l.ra, l.rb, l.mm, fun m hmm => ?_⟩, h.kF hb, h.b1, h.b2⟩, hb.mono fun i _ e => by rw [hS i e]; simp⟩
  · have := (l.pg m (mem_nums (mem_del.1 hmz).2)).1
    omega
  · obtain ⟨Z, hZ⟩ := nums_mem hmm
    exact l.pg m (mem_nums (mem_del.1 hZ).2)
end

/-- A shelf in memory that keeps to what a shelf keeps to. -/
structure Sm (w : World) (x : Fx) (A : Adr) (lab : Lab) (s : Shl) : Prop where
  sr : Sr w x A lab s.O s.fl s.ps s.op (usedS s.ps : Int)
  sw : Sw x.K x.c x.B s
  uw : Uw s
/-- What a call leaves: the shelf s, in blocks that were its own, or were made meanwhile; nothing else has turned. -/
def Nxt (x : Fx) (lab : Lab) (s : Shl) (w w' : World) : Prop := ∃ A' lab', Sm w' x A' lab' s ∧ (∀ i, i < w.heap.size → lab' i = lab i) ∧ But (fun i => lab i ≠ none) w w'
section
variable {w w' : World} {x : Fx} {A : Adr} {lab : Lab} {s : Shl} {S : Nat → Prop}
theorem Sm.but (h : Sm w x A lab s) (hb : But S w w') (hS : ∀ i, S i → lab i = none) (hF : Far w S) : Sm w' x A lab s := ⟨h.sr.but hb hS hF, h.sw, h.uw⟩
theorem Sm.below (h : Sm w x A lab s) (hb : Below w.heap.size w w') : Sm w' x A lab s := ⟨h.sr.below hb, h.sw, h.uw⟩
theorem Sm.same (h : Sm w x A lab s) (hb : Below w.heap.size w w') : Nxt x lab s w w' := ⟨A, lab, h.below hb, fun _ _ => rfl, Below.but hb _⟩
end
end Go.Proofs.Ytfkegbipfekbdaa.Sh
