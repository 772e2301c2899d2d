import Derived.Test.YtijkigibcpgciaaZShNum
import Derived.Test.YtijkigibcpgciaaZPlRefDo
import Derived.Test.YtijkigibcpgciaaZPgRefDo
/-
  The document's own answers for package shelf (almeryref13): its shelf in memory ('Rs'), a variable that holds one ('B7'); how both are kept. No statement about a Go function.
-/
namespace Go.Proofs.Ytijkigibcpgciaa.Sh
open Go.ChangeShapes Go.WideShapes Go.ChangeAt Go.RowKit Go.Deep
set_option maxRecDepth 100000

/-- Ints that lie in blocks of P. -/
structure Ip (w : World) (P : Nat → Prop) (a : Option Addr) (n c : Nat) (l : List Int) : Prop where
  ints : Ints w w.heap.size a n l
  cap : n ≤ c
  blk : 0 < n → ∃ b o, a = some ⟨b, o, none⟩ ∧ P b
/-- One page's owners. -/
def Row (w : World) (P : Nat → Prop) (u : Value) (X : List Int) : Prop := ∃ g cap, u = .slice (some ⟨g, 0, none⟩) X.length cap ∧ Ints w w.heap.size (some ⟨g, 0, none⟩) X.length X ∧ P g ∧ 1 ≤ X.length
/-- All pages' owners. -/
structure Pp (w : World) (P : Nat → Prop) (a : Option Addr) (n c : Nat) (rs : List (Value × List Int)) : Prop where
  len : rs.length = n
  cap : n ≤ c
  row : ∀ q ∈ rs, Row w P q.1 q.2
  blk : 0 < n → ∃ b o, a = some ⟨b, o, none⟩ ∧ P b ∧ b < w.heap.size ∧ ∀ (k : Nat) (q : Value × List Int), rs[k]? = some q → w.cell? ⟨b, o + k, none⟩ = some q.1
section
variable {w w' : World} {P P' : Nat → Prop} {a : Option Addr} {n c : Nat} {l : List Int} {rs : List (Value × List Int)} {u : Value} {X : List Int}
theorem Ip.but (h : Ip w P a n c l) (hb : But (fun i => ¬ P i) w w') : Ip w' P a n c l :=
  ⟨(h.ints.far hb (Nat.le_refl _) fun q => by obtain ⟨b, o, e, p⟩ := h.blk q; exact ⟨b, o, e, fun z => z p⟩).more hb.size, h.cap, h.blk⟩
theorem Ip.on (h : Ip w P a n c l) (hb : Below w.heap.size w w') : Ip w' P a n c l := h.but (Below.but hb _)
theorem Ip.swap (h : Ip w P a n c l) (hP : ∀ k, k < w.heap.size → P k → P' k) : Ip w P' a n c l :=
  ⟨h.ints, h.cap, fun q => by
    obtain ⟨b, o, e, p⟩ := h.blk q
    obtain ⟨b', o', e', hl, _⟩ := h.ints.head q
    rw [e] at e'
    injection e' with e'
    injection e' with e1 e2
    exact ⟨b, o, e, hP b (by omega) p⟩⟩
theorem Row.but (h : Row w P u X) (hb : But (fun i => ¬ P i) w w') : Row w' P u X := by
  obtain ⟨g, cap, e, h2, h3, h4⟩ := h
  exact ⟨g, cap, e, (h2.butAt hb (Nat.le_refl _) (fun z => z h3)).more hb.size, h3, h4⟩
theorem Row.swap (h : Row w P u X) (hP : ∀ k, k < w.heap.size → P k → P' k) : Row w P' u X := by
  obtain ⟨g, cap, e, h2, h3, h4⟩ := h
  obtain ⟨b, o, e', hl, _⟩ := h2.head (by omega)
  injection e' with e'
  injection e' with e1 e2
  exact ⟨g, cap, e, h2, hP g (by omega) h3, h4⟩
theorem Pp.but (h : Pp w P a n c rs) (hb : But (fun i => ¬ P i) w w') : Pp w' P a n c rs :=
  ⟨h.len, h.cap, fun q hq => (h.row q hq).but hb, fun q => by
    obtain ⟨b, o, e, p, hl, hc⟩ := h.blk q
    exact ⟨b, o, e, p, Nat.lt_of_lt_of_le hl hb.size, fun k r hr => (hb.cell (p := ⟨b, o + k, none⟩) hl (fun z => z p)).trans (hc k r hr)⟩⟩
theorem Pp.on (h : Pp w P a n c rs) (hb : Below w.heap.size w w') : Pp w' P a n c rs := h.but (Below.but hb _)
theorem Pp.swap (h : Pp w P a n c rs) (hP : ∀ k, k < w.heap.size → P k → P' k) : Pp w P' a n c rs :=
  ⟨h.len, h.cap, fun q hq => (h.row q hq).swap hP, fun q => by
    obtain ⟨b, o, e, p, hl, hc⟩ := h.blk q
    exact ⟨b, o, e, hP b hl p, hl, hc⟩⟩
end

/-- The values of the document's shelf. -/
structure Rv where
  oa : Option Addr
  K : Nat
  oc : Nat
  fa : Option Addr
  nf : Nat
  fc : Nat
  c : Int
  B : Int
  na : Option Addr
  N : Nat
  nc : Nat
  pa : Option Addr
  pc : Nat
  qa : Option Addr
  M : Nat
  qc : Nat
/-- The document's shelf, all in blocks of P. -/
structure Rs (w : World) (P : Nat → Prop) (v : Rv) (s : Shl) : Prop where
  pool : Pl.Rp w (fun k => P k ∧ k < w.heap.size) v.oa v.oc v.fa v.fc v.nf v.K s.O s.fl
  nums : Ip w P v.na v.N v.nc (nums s.ps)
  pages : ∃ rs, Pp w P v.pa v.N v.pc rs ∧ rs.map (·.2) = s.ps.map (·.2)
  op : Ip w P v.qa v.M v.qc s.op
/-- All that is made from here on is in P. -/
def Up (w : World) (P : Nat → Prop) : Prop := ∀ k, w.heap.size ≤ k → P k
section
variable {w w' : World} {P P' : Nat → Prop} {v : Rv} {s : Shl}
theorem Up.on (h : Up w P) (hs : w.heap.size ≤ w'.heap.size) : Up w' P := fun k hk => h k (Nat.le_trans hs hk)
theorem Rs.but (h : Rs w P v s) (hb : But (fun i => ¬ P i) w w') : Rs w' P v s := by
  obtain ⟨rs, h1, h2⟩ := h.pages
  have hp := h.pool.but hb (fun k hk z => z hk.1)
  exact ⟨⟨hp.own, hp.free, hp.oc_, hp.fc_, fun k hk => hk.2, fun q => by obtain ⟨b, o, e, p⟩ := hp.po q; exact ⟨b, o, e, p.1, hp.lt b p⟩, fun q => by obtain ⟨b, o, e, p⟩ := hp.pf q; exact ⟨b, o, e, p.1, hp.lt b p⟩⟩, h.nums.but hb, ⟨rs, h1.but hb, h2⟩, h.op.but hb⟩
theorem Rs.on (h : Rs w P v s) (hb : Below w.heap.size w w') : Rs w' P v s := h.but (Below.but hb _)
theorem Rs.swap (h : Rs w P v s) (hP : ∀ k, k < w.heap.size → P k → P' k) : Rs w P' v s := by
  obtain ⟨rs, h1, h2⟩ := h.pages
  have hp := h.pool
  exact ⟨⟨hp.own, hp.free, hp.oc_, hp.fc_, fun k hk => hk.2, fun q => by obtain ⟨b, o, e, p⟩ := hp.po q; exact ⟨b, o, e, hP b p.2 p.1, p.2⟩, fun q => by obtain ⟨b, o, e, p⟩ := hp.pf q; exact ⟨b, o, e, hP b p.2 p.1, p.2⟩⟩, h.nums.swap hP, ⟨rs, h1.swap hP, h2⟩, h.op.swap hP⟩
/-- The pool behind one of the document's own acts on pools. -/
theorem pool_on {Q : Nat → Prop} {oa fa : Option Addr} {oc fc n K : Nat} {O fl : List Int} (h : Pl.Rp w' Q oa oc fa fc n K O fl) (up : Up w P) (hQ : ∀ k, Q k → (P k ∧ k < w.heap.size) ∨ w.heap.size ≤ k) : Pl.Rp w' (fun k => P k ∧ k < w'.heap.size) oa oc fa fc n K O fl := by
  have hh : ∀ k, Q k → P k ∧ k < w'.heap.size := fun k hk => ⟨by rcases hQ k hk with q | q; exact q.1; exact up k q, h.lt k hk⟩
  exact ⟨h.own, h.free, h.oc_, h.fc_, fun k hk => hk.2, fun q => by obtain ⟨b, o, e, p⟩ := h.po q; exact ⟨b, o, e, hh b p⟩, fun q => by obtain ⟨b, o, e, p⟩ := h.pf q; exact ⟨b, o, e, hh b p⟩⟩
theorem Rs.numN (h : Rs w P v s) : v.N = s.ps.length := by
  have := h.nums.ints.len
  rw [nums_len] at this
  exact this.symm
theorem Rs.opM (h : Rs w P v s) : v.M = s.op.length := h.op.ints.len.symm
/-- The row of a page. -/
theorem Rs.at_ (h : Rs w P v s) {k : Nat} {n : Int} {X : List Int} (hk : s.ps[k]? = some (n, X)) :
    ∃ b o g cap, v.pa = some ⟨b, o, none⟩ ∧ w.cell? ⟨b, o + k, none⟩ = some (.slice (some ⟨g, 0, none⟩) X.length cap) ∧ Ints w w.heap.size (some ⟨g, 0, none⟩) X.length X ∧ P g ∧ 1 ≤ X.length ∧ b < w.heap.size := by
  obtain ⟨rs, h1, h2⟩ := h.pages
  have hlt : k < s.ps.length := (List.getElem?_eq_some_iff.1 hk).1
  obtain ⟨b, o, e, _, hb, hc⟩ := h1.blk (by rw [h.numN]; omega)
  have hl : k < rs.length := by rw [h1.len, h.numN]; exact hlt
  have h3 : (rs.map (·.2))[k]? = some X := by rw [h2, List.getElem?_map, hk]; rfl
  rw [List.getElem?_map, List.getElem?_eq_getElem hl] at h3
  simp at h3
  obtain ⟨g, cap, e1, e3, e4, e5⟩ := h1.row rs[k] (List.getElem_mem hl)
  have h4 := hc k rs[k] (List.getElem?_eq_getElem hl)
  rw [h3] at e1 e3 e5
  rw [e1] at h4
  exact ⟨b, o, g, cap, e, h4, e3, e4, e5, hb⟩
end

/-! ### A variable that holds one -/
/-- Block q is a variable of seven cells that may be written. -/
structure B7 (w : World) (q : Nat) (u0 u1 u2 u3 u4 u5 u6 : Value) : Prop where
  c0 : w.cell? ⟨q, 0, none⟩ = some u0
  c1 : w.cell? ⟨q, 1, none⟩ = some u1
  c2 : w.cell? ⟨q, 2, none⟩ = some u2
  c3 : w.cell? ⟨q, 3, none⟩ = some u3
  c4 : w.cell? ⟨q, 4, none⟩ = some u4
  c5 : w.cell? ⟨q, 5, none⟩ = some u5
  c6 : w.cell? ⟨q, 6, none⟩ = some u6
  f0 : w.frozen? ⟨q, 0, none⟩ = false
  f1 : w.frozen? ⟨q, 1, none⟩ = false
  f2 : w.frozen? ⟨q, 2, none⟩ = false
  f3 : w.frozen? ⟨q, 3, none⟩ = false
  f4 : w.frozen? ⟨q, 4, none⟩ = false
  f5 : w.frozen? ⟨q, 5, none⟩ = false
  f6 : w.frozen? ⟨q, 6, none⟩ = false
/-- Such a variable that holds the document's shelf. -/
def Bs (w : World) (q : Nat) (v : Rv) : Prop := B7 w q (.slice v.oa v.K v.oc) (.slice v.fa v.nf v.fc) (.int .i64 v.c) (.int .i64 v.B) (.slice v.na v.N v.nc) (.slice v.pa v.N v.pc) (.slice v.qa v.M v.qc)
def set7 (w : World) (q : Nat) (u0 u1 u2 u3 u4 u5 u6 : Value) : World := ((((((w.setCell ⟨q, 0, none⟩ u0).setCell ⟨q, 1, none⟩ u1).setCell ⟨q, 2, none⟩ u2).setCell ⟨q, 3, none⟩ u3).setCell ⟨q, 4, none⟩ u4).setCell ⟨q, 5, none⟩ u5).setCell ⟨q, 6, none⟩ u6
section
variable {w w' : World} {q : Nat} {u0 u1 u2 u3 u4 u5 u6 t0 t1 t2 t3 t4 t5 t6 : Value} {S : Nat → Prop}
theorem B7.lt (h : B7 w q u0 u1 u2 u3 u4 u5 u6) : q < w.heap.size := lt_of_cell (p := ⟨q, 0, none⟩) h.c0
theorem B7.but (h : B7 w q u0 u1 u2 u3 u4 u5 u6) (hb : But S w w') (hn : ¬ S q) : B7 w' q u0 u1 u2 u3 u4 u5 u6 :=
  have hl := h.lt
  ⟨(hb.cell (p := ⟨q, 0, none⟩) hl hn).trans h.c0, (hb.cell (p := ⟨q, 1, none⟩) hl hn).trans h.c1, (hb.cell (p := ⟨q, 2, none⟩) hl hn).trans h.c2, (hb.cell (p := ⟨q, 3, none⟩) hl hn).trans h.c3, (hb.cell (p := ⟨q, 4, none⟩) hl hn).trans h.c4, (hb.cell (p := ⟨q, 5, none⟩) hl hn).trans h.c5, (hb.cell (p := ⟨q, 6, none⟩) hl hn).trans h.c6,
    (hb.frozen (p := ⟨q, 0, none⟩) hl hn).trans h.f0, (hb.frozen (p := ⟨q, 1, none⟩) hl hn).trans h.f1, (hb.frozen (p := ⟨q, 2, none⟩) hl hn).trans h.f2, (hb.frozen (p := ⟨q, 3, none⟩) hl hn).trans h.f3, (hb.frozen (p := ⟨q, 4, none⟩) hl hn).trans h.f4, (hb.frozen (p := ⟨q, 5, none⟩) hl hn).trans h.f5, (hb.frozen (p := ⟨q, 6, none⟩) hl hn).trans h.f6⟩
theorem B7.below (h : B7 w q u0 u1 u2 u3 u4 u5 u6) (hb : Below w.heap.size w w') : B7 w' q u0 u1 u2 u3 u4 u5 u6 := h.but (Below.but hb fun _ => False) id
theorem B7.new (w : World) (u0 u1 u2 u3 u4 u5 u6 : Value) (t : TypeId) : B7 (w.alloc (.cells #[u0, u1, u2, u3, u4, u5, u6] t)) w.heap.size u0 u1 u2 u3 u4 u5 u6 := ⟨by go_simp, by go_simp, by go_simp, by go_simp, by go_simp, by go_simp, by go_simp, by go_simp, by go_simp, by go_simp, by go_simp, by go_simp, by go_simp, by go_simp⟩
theorem set7_but (w : World) (q : Nat) : But (· = q) w (set7 w q t0 t1 t2 t3 t4 t5 t6) := by
  unfold set7
  exact (((((((But.refl (· = q) w).setCell (p := ⟨q, 0, none⟩) (fun _ => rfl) _).setCell (p := ⟨q, 1, none⟩) (fun _ => rfl) _).setCell (p := ⟨q, 2, none⟩) (fun _ => rfl) _).setCell (p := ⟨q, 3, none⟩) (fun _ => rfl) _).setCell (p := ⟨q, 4, none⟩) (fun _ => rfl) _).setCell (p := ⟨q, 5, none⟩) (fun _ => rfl) _).setCell (p := ⟨q, 6, none⟩) (fun _ => rfl) _
theorem B7.set (h : B7 w q u0 u1 u2 u3 u4 u5 u6) : B7 (set7 w q t0 t1 t2 t3 t4 t5 t6) q t0 t1 t2 t3 t4 t5 t6 := by
  obtain ⟨c0, c1, c2, c3, c4, c5, c6, f0, f1, f2, f3, f4, f5, f6⟩ := h
  unfold set7
  refine ⟨?_, ?_, ?_, ?_, ?_, ?_, ?_, by simpa using f0, by simpa using f1, by simpa using f2, by simpa using f3, by simpa using f4, by simpa using f5, by simpa using f6⟩ <;> go_simp
/-- One cell turns. -/
theorem cell_but (w : World) (q i : Nat) (u : Value) : But (· = q) w (w.setCell ⟨q, i, none⟩ u) := (But.refl (· = q) w).setCell (p := ⟨q, i, none⟩) (fun _ => rfl) u
theorem B7.set4 (h : B7 w q u0 u1 u2 u3 u4 u5 u6) (t : Value) : B7 (w.setCell ⟨q, 4, none⟩ t) q u0 u1 u2 u3 t u5 u6 := by
  obtain ⟨c0, c1, c2, c3, c4, c5, c6, f0, f1, f2, f3, f4, f5, f6⟩ := h
  refine ⟨?_, ?_, ?_, ?_, ?_, ?_, ?_, by simpa using f0, by simpa using f1, by simpa using f2, by simpa using f3, by simpa using f4, by simpa using f5, by simpa using f6⟩ <;> go_simp
theorem B7.set5 (h : B7 w q u0 u1 u2 u3 u4 u5 u6) (t : Value) : B7 (w.setCell ⟨q, 5, none⟩ t) q u0 u1 u2 u3 u4 t u6 := by
  obtain ⟨c0, c1, c2, c3, c4, c5, c6, f0, f1, f2, f3, f4, f5, f6⟩ := h
  refine ⟨?_, ?_, ?_, ?_, ?_, ?_, ?_, by simpa using f0, by simpa using f1, by simpa using f2, by simpa using f3, by simpa using f4, by simpa using f5, by simpa using f6⟩ <;> go_simp
theorem B7.set6 (h : B7 w q u0 u1 u2 u3 u4 u5 u6) (t : Value) : B7 (w.setCell ⟨q, 6, none⟩ t) q u0 u1 u2 u3 u4 u5 t := by
  obtain ⟨c0, c1, c2, c3, c4, c5, c6, f0, f1, f2, f3, f4, f5, f6⟩ := h
  refine ⟨?_, ?_, ?_, ?_, ?_, ?_, ?_, by simpa using f0, by simpa using f1, by simpa using f2, by simpa using f3, by simpa using f4, by simpa using f5, by simpa using f6⟩ <;> go_simp
theorem B7.set01 (h : B7 w q u0 u1 u2 u3 u4 u5 u6) (t0 t1 : Value) : B7 ((w.setCell ⟨q, 0, none⟩ t0).setCell ⟨q, 1, none⟩ t1) q t0 t1 u2 u3 u4 u5 u6 := by
  obtain ⟨c0, c1, c2, c3, c4, c5, c6, f0, f1, f2, f3, f4, f5, f6⟩ := h
  refine ⟨?_, ?_, ?_, ?_, ?_, ?_, ?_, by simpa using f0, by simpa using f1, by simpa using f2, by simpa using f3, by simpa using f4, by simpa using f5, by simpa using f6⟩ <;> go_simp
end
end Go.Proofs.Ytijkigibcpgciaa.Sh
