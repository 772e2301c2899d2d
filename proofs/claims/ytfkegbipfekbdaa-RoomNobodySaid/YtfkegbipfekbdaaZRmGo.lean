import Derived.Test.YtfkegbipfekbdaaZShGrow
import Derived.Test.YtfkegbipfekbdaaZRoomKeep
import Derived.Test.YtfkegbipfekbdaaZIntsApp
/-
  Package room, its ground: what a Room is in memory ('Gm'): its cells, its shelves beside one another on one pool, its map of large things; how it is kept. No statement about a Go function.
-/
namespace Go.Proofs.Ytfkegbipfekbdaa.Room
open Go.ChangeShapes Go.WideShapes Go.ChangeAt Go.RowKit
open Go.Maps (Keyed)
open Sh (Shl Ps Sw Uw Sr Sm Fx Adr Lab Nxt Far nums usedS mem_nums)
set_option maxRecDepth 100000

/-- Ints that lie in blocks of P. -/
structure Iq (w : World) (P : Nat → Prop) (a : Option Addr) (n c : Nat) (l : List Int) : Prop where
  ints : Ints w w.heap.size a n l
  cap : n ≤ c
  blk : 0 < n → ∃ b o, a = some ⟨b, o, none⟩ ∧ P b
section
variable {w w' : World} {P P' : Nat → Prop} {a : Option Addr} {n c : Nat} {l : List Int}
theorem Iq.but (h : Iq w P a n c l) (hb : But (fun i => ¬ P i) w w') : Iq w' P a n c l :=
  ⟨(h.ints.far hb (Nat.le_refl _) fun q => by obtain ⟨b, o, e, p⟩ := h.blk q; exact ⟨b, o, e, fun z => z p⟩).more hb.size, h.cap, h.blk⟩
theorem Iq.on (h : Iq w P a n c l) (hb : Below w.heap.size w w') : Iq w' P a n c l := h.but (Below.but hb _)
theorem Iq.swap (h : Iq w P a n c l) (hP : ∀ k, k < w.heap.size → P k → P' k) : Iq w P' a n c l :=
  ⟨h.ints, h.cap, fun q => by
    obtain ⟨b, o, e, p⟩ := h.blk q
    obtain ⟨b', o', e', hl, _⟩ := h.ints.head q
    rw [e] at e'
    injection e' with e'
    injection e' with e1 e2
    exact ⟨b, o, e, hP b (by omega) p⟩⟩
end

/-! ### The map of large things -/
/-- How the map's values read: as themselves. -/
def valElem (v : Value) : Option (DataW Value × List MemPlace) := some (.held v, [])
structure Lk (D : DataW Value) (ks : List Int) (V : Int → Value) : Prop where
  has : ∀ i : Int, Maps.has D (.int .i64 i) = decide (i ∈ ks)
  at_ : ∀ (i : Int) (z : DataW Value), D.atKey (.int .i64 i) z = if i ∈ ks then .held (V i) else z
  size : Maps.size D = ks.length
/-- Block m is the map of these keys, whose values V tells. -/
def Lm (w : World) (m : Nat) (ks : List Int) (V : Int → Value) : Prop := ∃ D : DataW Value, w.ownsMap Try.prog 3 valElem m ks.length D ∧ Lk D ks V
theorem zeroSlice (w : World) : (zeroValue 22).run Try.prog w = .ok (.slice none 0 0) w := by kernel_rfl
def updV (V : Int → Value) (n : Int) (v : Value) : Int → Value := fun i => if i = n then v else V i
section
variable {w w' : World} {m : Nat} {ks : List Int} {V : Int → Value} {S : Nat → Prop} {n : Int} {v : Value}
theorem Lm.lt (h : Lm w m ks V) : m < w.heap.size := by obtain ⟨D, h, _⟩ := h; exact h.lt
theorem Lm.but (h : Lm w m ks V) (hb : But S w w') (hn : ¬ S m) : Lm w' m ks V := by
  have hl := h.lt
  obtain ⟨D, ⟨es, clock, he, r⟩, k⟩ := h
  exact ⟨D, ⟨es, clock, (hb.block m hl hn).trans he, r⟩, k⟩
theorem Lm.nocell (h : Lm w m ks V) (o : Nat) : w.cell? ⟨m, o, none⟩ = none := by
  obtain ⟨D, ⟨es, clock, he, r⟩, k⟩ := h
  simp [World.cell?, he]
theorem Lm.look (h : Lm w m ks V) (hn : Pl.Fit n) : (Instr.lookup 63 (.map (some m)) (.int .i64 n) true).run Try.prog w = .ok (.tuple #[if n ∈ ks then V n else .slice none 0 0, .bool (decide (n ∈ ks))]) w := by
  obtain ⟨D, ho, hk⟩ := h
  obtain ⟨v, l, hr, hv⟩ := ho.look_ok Pg.intKeys Try.underlying63 (zeroSlice w) (by rfl : valElem (.slice none 0 0) = some (.held (.slice none 0 0), [])) (Pg.key64 hn)
  rw [hr, hk.has]
  rw [hk.at_] at hv
  unfold valElem at hv
  split at hv
  · rename_i q
    rw [if_pos q]
    simp at hv
    rw [hv.1]
  · rename_i q
    rw [if_neg q]
    simp at hv
    rw [hv.1]
theorem Lm.put (h : Lm w m ks V) (hn : n ∉ ks) (hf : Pl.Fit n) (hl : ks.length ≤ 1024) (v : Value) :
    ∃ w', (Instr.mapUpdate 63 (.map (some m)) (.int .i64 n) v).run Try.prog w = .ok () w' ∧ Lm w' m (ks ++ [n]) (updV V n v) ∧ But (· = m) w w' := by
  obtain ⟨D, ho, hk⟩ := h
  obtain ⟨w', hr, h1, h2⟩ := ho.store Pg.intKeys Try.underlying63 (by unfold maxLen; omega) (Pg.key64 hf) (by rfl : valElem v = some (.held v, []))
  have hd := ho.tidy Pg.intKeys
  have hm : ∀ i, i ∈ ks ++ [n] ↔ i ∈ ks ∨ i = n := fun i => by simp
  refine ⟨w', hr, ⟨_, by rw [List.length_append]; exact h1, fun i => ?_, fun i z => ?_, ?_⟩, Pg.turned_but h2⟩
  · by_cases e : i = n
    · subst e
      rw [Maps.has_put_same hd.isMap (Pg.keyLit _)]
      simp
    · rw [Maps.has_put_other (Pg.ne_key e), hk.has]
      simp [e]
  · by_cases e : i = n
    · subst e
      rw [Maps.atKey_put_same hd.isMap (Pg.keyLit _), if_pos ((hm i).2 (Or.inr rfl))]
      simp [updV]
    · rw [Maps.atKey_put_other (Pg.ne_key e), hk.at_]
      simp [updV, e]
  · rw [Maps.size_put hd, hk.has, hk.size]
    simp [hn]
theorem owns_tightV {w : World} {m n : Nat} {D : DataW Value} {R : Value → Option (DataW Value × List MemPlace)} (h : w.ownsMap Try.prog 3 R m n D) : w.ownsMap Try.prog 3 R m (Maps.size D) D := by
  obtain ⟨es, clock, he, F, hs, rfl⟩ := h
  exact ⟨es, clock, he, F, by simp [Maps.size, length_sorted], rfl⟩
theorem Lm.del {ks' : List Int} (h : Lm w m ks V) (hks : ∀ i, i ∈ ks' ↔ i ≠ n ∧ i ∈ ks) (hlen : ks'.length + 1 = ks.length) (hn : n ∈ ks) (hf : Pl.Fit n) (ty : TypeId) :
    ∃ w', (Builtin.delete_ #[63, 3] ty #[.map (some m), .int .i64 n]).run Try.prog w = .ok (.tuple #[]) w' ∧ Lm w' m ks' V ∧ But (· = m) w w' := by
  obtain ⟨D, ho, hk⟩ := h
  obtain ⟨w', hr, h1, h2⟩ := ho.drop Pg.intKeys Try.underlying63 (Pg.key64 hf) ty
  have hd := ho.tidy Pg.intKeys
  have hsz := Maps.size_del (k := .int .i64 n) hd
  rw [hk.has, hk.size] at hsz
  have kp : Lk (D.del (.int .i64 n)) ks' V := by
    refine ⟨fun i => ?_, fun i z => ?_, ?_⟩
    · by_cases e : i = n
      · subst e
        rw [Maps.has_del_same]
        simp [hks]
      · rw [Maps.has_del_other (Pg.ne_key e), hk.has]
        simp [hks, e]
    · by_cases e : i = n
      · subst e
        rw [Maps.atKey_del_same, if_neg (fun y => ((hks i).1 y).1 rfl)]
      · rw [Maps.atKey_del_other (Pg.ne_key e), hk.at_]
        simp [hks, e]
    · simp [hn] at hsz
      omega
  refine ⟨w', hr, ⟨_, ?_, kp⟩, Pg.turned_but h2⟩
  rw [← kp.size]
  exact owns_tightV h1
theorem Lm.new (w : World) (V : Int → Value) : Lm (w.alloc (.map #[] 0)) w.heap.size [] V := ⟨.map [], World.ownsMap_made w _ _ _, fun i => by simp; rfl, fun i z => by simp; rfl, rfl⟩
end

/-! ### The room -/
/-- Where a room lies, and what it is of: its block, its meter (as a value), its pool's two, its shelves' row, its sizes', its map's; the layout. -/
structure Gx where
  g : Nat
  mv : Value
  pp : Nat
  pa : Nat
  K : Nat
  sb : Nat
  za : Option Addr
  zc : Nat
  mm : Nat
  c : Cf
/-- The room's own cells, and its row of shelves. -/
structure Gc (w : World) (y : Gx) (x : Nat → Fx) : Prop where
  k0 : w.cell? ⟨y.g, 0, none⟩ = some y.mv
  k1 : w.cell? ⟨y.g, 1, none⟩ = some (.pointer (some ⟨y.pp, 0, none⟩))
  k2 : w.cell? ⟨y.g, 2, none⟩ = some (.slice (some ⟨y.sb, 0, none⟩) y.c.cn y.c.cn)
  k3 : w.cell? ⟨y.g, 3, none⟩ = some (.slice y.za y.c.cn y.zc)
  k4 : w.cell? ⟨y.g, 4, none⟩ = some (.int .i64 y.c.size)
  k5 : w.cell? ⟨y.g, 5, none⟩ = some (.int .i64 y.c.most)
  k6 : w.cell? ⟨y.g, 6, none⟩ = some (.map (some y.mm))
  row : ∀ k, k < y.c.cn → w.cell? ⟨y.sb, k, none⟩ = some (.pointer (some ⟨(x k).s, 0, none⟩))
/-- The first pages of large things. -/
def firsts (l : List (Int × List Int)) : List Int := l.map (·.1)
/-- How the parts lie: Q the blocks that never turn, all apart. -/
structure Gl (y : Gx) (lab : Nat → Lab) (Q : Nat → Prop) : Prop where
  g : Q y.g
  sb : Q y.sb
  q : ∀ i, Q i → ¬ Any y.c.cn lab i ∧ i ≠ y.mm ∧ i ≠ y.pp ∧ i ≠ y.pa
  mm : ¬ Any y.c.cn lab y.mm ∧ y.mm ≠ y.pp ∧ y.mm ≠ y.pa
  pp : ∀ k, k < y.c.cn → lab k y.pp = some (-2) ∧ lab k y.pa = some (-2)
/-- A Room in memory. -/
structure Gm (w : World) (y : Gx) (x : Nat → Fx) (A : Nat → Adr) (lab : Nat → Lab) (V : Int → Value) (Q : Nat → Prop) (r : Rom) : Prop where
  cl : Gc w y x
  fx : Fxs y.c.cn y.pp y.pa y.K (blk y.c) x
  shv : Shv w y.c.cn x A lab r
  pool : Pl.Pm w y.pp y.pa y.K r.O r.fl
  sizes : Iq w Q y.za y.c.cn y.zc y.c.xs
  map : Lm w y.mm (firsts r.lg) V
  large : ∀ p ∈ r.lg, ∃ a cap, V p.1 = .slice a p.2.length cap ∧ Iq w Q a p.2.length cap p.2
  lay : Gl y lab Q
  fin : ∀ i, Q i → i < w.heap.size
  wf : RWf y.K y.c.cn (blk y.c) r
  may : MayC y.c
  cn : y.c.cn = y.c.xs.length
  k1 : 1 ≤ y.K
  k2 : y.K ≤ 1024
/-- What may turn. -/
def Trn (y : Gx) (lab : Nat → Lab) (i : Nat) : Prop := Any y.c.cn lab i ∨ i = y.mm ∨ i = y.pp ∨ i = y.pa
/-- All blocks of a room. -/
def Ftp (y : Gx) (lab : Nat → Lab) (Q : Nat → Prop) (i : Nat) : Prop := Q i ∨ Trn y lab i
section
variable {w w' : World} {y : Gx} {x : Nat → Fx} {A : Nat → Adr} {lab : Nat → Lab} {V : Int → Value} {Q : Nat → Prop} {r : Rom} {S : Nat → Prop}
theorem Gc.gl (h : Gc w y x) : y.g < w.heap.size := lt_of_cell (p := ⟨y.g, 0, none⟩) h.k0
theorem Gc.but (h : Gc w y x) (hb : But S w w') (hg : ¬ S y.g) (hs : ¬ S y.sb) : Gc w' y x :=
  ⟨(hb.cell (p := ⟨y.g, 0, none⟩) h.gl hg).trans h.k0, (hb.cell (p := ⟨y.g, 1, none⟩) h.gl hg).trans h.k1, (hb.cell (p := ⟨y.g, 2, none⟩) h.gl hg).trans h.k2, (hb.cell (p := ⟨y.g, 3, none⟩) h.gl hg).trans h.k3, (hb.cell (p := ⟨y.g, 4, none⟩) h.gl hg).trans h.k4, (hb.cell (p := ⟨y.g, 5, none⟩) h.gl hg).trans h.k5, (hb.cell (p := ⟨y.g, 6, none⟩) h.gl hg).trans h.k6,
    fun k hk => (hb.cell (p := ⟨y.sb, k, none⟩) (lt_of_cell (p := ⟨y.sb, k, none⟩) (h.row k hk)) hs).trans (h.row k hk)⟩
theorem Gm.n16 (h : Gm w y x A lab V Q r) : y.c.cn ≤ 16 := by have := h.may.few; have := h.cn; omega
theorem Gm.B (h : Gm w y x A lab V Q r) : ∀ k, k < y.c.cn → 1 ≤ blk y.c k ∧ blk y.c k ≤ 512 := fun k hk => by
  have := blk_in h.may (show k < y.c.xs.length by rw [← h.cn]; exact hk)
  omega
theorem Gm.ftp (h : Gm w y x A lab V Q r) {i : Nat} (hi : Ftp y lab Q i) : i < w.heap.size := by
  rcases hi with q | q | q | q | q
  · exact h.fin i q
  · exact h.shv.fin q
  · rw [q]; exact h.map.lt
  · rw [q]; exact h.pool.psize
  · rw [q]; exact h.pool.asize
/-- Kept while nothing of it turns. -/
theorem Gm.but (h : Gm w y x A lab V Q r) (hb : But S w w') (hS : ∀ i, S i → ¬ Ftp y lab Q i) (hF : Far w S) : Gm w' y x A lab V Q r := by
  have nq : ∀ i, Q i → ¬ S i := fun i q s => hS i s (Or.inl q)
  have nt : ∀ i, Trn y lab i → ¬ S i := fun i q s => hS i s (Or.inr q)
  have bq : But (fun i => ¬ Q i) w w' := hb.mono fun i _ s q => nq i q s
  refine ⟨h.cl.but hb (nq _ h.lay.g) (nq _ h.lay.sb), h.fx, h.shv.but hb (fun i s q => nt i (Or.inl q) s) hF, h.pool.but hb (nt _ (Or.inr (Or.inr (Or.inl rfl)))) (nt _ (Or.inr (Or.inr (Or.inr rfl)))) hF, h.sizes.but bq, h.map.but hb (nt _ (Or.inr (Or.inl rfl))), fun p hp => ?_, h.lay, fun i q => Nat.lt_of_lt_of_le (h.fin i q) hb.size, h.wf, h.may, h.cn, h.k1, h.k2⟩
  obtain ⟨a, cap, e, q⟩ := h.large p hp
  exact ⟨a, cap, e, q.but bq⟩
theorem Gm.below (h : Gm w y x A lab V Q r) (hb : Below w.heap.size w w') : Gm w' y x A lab V Q r := h.but (Below.but hb fun _ => False) (fun _ q => q.elim) (fun _ q => q.elim)
theorem Gm.drewN (h : Gm w y x A lab V Q r) (k : Nat) : Gm (w.drewN k) y x A lab V Q r := h.but ((But.refl (fun _ => False) w).drewN k) (fun _ q => q.elim) (fun _ q => q.elim)
end
/-- The room r, which lies where it lay, or in new blocks; nothing else than what may turn has turned. -/
def GNxt (y : Gx) (x : Nat → Fx) (lab : Nat → Lab) (Q : Nat → Prop) (r : Rom) (w w' : World) : Prop :=
  ∃ A' lab' V' Q', Gm w' y x A' lab' V' Q' r ∧ (∀ i, i < w.heap.size → Ftp y lab' Q' i → Ftp y lab Q i) ∧ But (Trn y lab) w w'
section
variable {w w' : World} {y : Gx} {x : Nat → Fx} {A : Nat → Adr} {lab : Nat → Lab} {V : Int → Value} {Q : Nat → Prop} {r : Rom} {s : Shl} {k : Nat}
theorem Gm.same (h : Gm w y x A lab V Q r) (hb : Below w.heap.size w w') : GNxt y x lab Q r w w' := ⟨A, lab, V, Q, h.below hb, fun _ _ q => q, Below.but hb _⟩
/-- The steps are said apart. -/
theorem Gm.steps (h : Gm w y x A lab V Q r) (t : Int) : Gm w y x A lab V Q ⟨r.O, r.fl, r.sh, r.lg, t⟩ :=
  ⟨h.cl, h.fx, ⟨h.shv.each, h.shv.apart⟩, h.pool, h.sizes, h.map, h.large, h.lay, h.fin, h.wf.steps t, h.may, h.cn, h.k1, h.k2⟩
theorem Gm.sm (h : Gm w y x A lab V Q r) (hk : k < y.c.cn) : Sm w (x k) (A k) (lab k) (shelf r k) := h.shv.sm h.fx h.wf hk
/-- One class's shelf turns. -/
theorem Gm.turn (h : Gm w y x A lab V Q r) (hk : k < y.c.cn) (hn : Nxt (x k) (lab k) s w w') (hsp : Spares (k : Int) r.O s.O) (hsum : s.fl.length + s.ps.length = r.fl.length + (shelf r k).ps.length) :
    ∃ A' lab', Gm w' y x A' lab' V Q (putS r k s) ∧ (∀ i, i < w.heap.size → Ftp y lab' Q i → Ftp y lab Q i) ∧ But (Trn y lab) w w' := by
  obtain ⟨A', lab', q1, q2, q3, q4, q5⟩ := h.shv.turn h.fx h.wf.len hk hn
  have lt : ∀ i, Q i → i < w.heap.size := h.fin
  have anyB : ∀ i, i < w.heap.size → (Any y.c.cn lab' i ↔ Any y.c.cn lab i) := fun i hi => by
    constructor
    · rintro ⟨j, hj, e⟩; exact ⟨j, hj, by rw [← q2 i j hi hj]; exact e⟩
    · rintro ⟨j, hj, e⟩; exact ⟨j, hj, by rw [q2 i j hi hj]; exact e⟩
  have bq : But (fun i => ¬ Q i) w w' := q3.mono fun i _ s q => (h.lay.q i q).1 s
  have pl := h.pool
  have sr := (q1.each k hk).pool
  rw [h.fx.pp k hk, h.fx.pa k hk, h.fx.K k hk] at sr
  refine ⟨A', lab', ⟨h.cl.but q3 (h.lay.q _ h.lay.g).1 (h.lay.q _ h.lay.sb).1, h.fx, q1, ?_, h.sizes.but bq, h.map.but q3 h.lay.mm.1, fun p hp => ?_, ⟨h.lay.g, h.lay.sb, fun i q => ⟨fun z => (h.lay.q i q).1 ((anyB i (lt i q)).1 z), (h.lay.q i q).2⟩, ⟨fun z => h.lay.mm.1 ((anyB _ h.map.lt).1 z), h.lay.mm.2⟩, fun j hj => ?_⟩, fun i q => Nat.lt_of_lt_of_le (h.fin i q) q3.size, h.wf.put hk q4 q5 hsp hsum, h.may, h.cn, h.k1, h.k2⟩, fun i hi q => ?_, q3.mono fun i _ q => Or.inl q⟩
  · exact sr
  · obtain ⟨a, cap, e, q⟩ := h.large p hp
    exact ⟨a, cap, e, q.but bq⟩
  · rw [q2 _ j pl.psize hj, q2 _ j pl.asize hj]
    exact h.lay.pp j hj
  · rcases q with q | q | q
    · exact Or.inl q
    · exact Or.inr (Or.inl ((anyB i hi).1 q))
    · exact Or.inr (Or.inr q)
end
end Go.Proofs.Ytfkegbipfekbdaa.Room
