import Derived.Test.YtijkigibcpgciaaZShSame
import Derived.Test.YtijkigibcpgciaaZShRefDone
/-
  How far the acts of layer 13's laws have come: a shelf, and the document's shelf in a variable of the law's. No statement about a Go function.
-/
namespace Go.Proofs.Ytijkigibcpgciaa.Sh
open Go.ChangeShapes Go.WideShapes Go.ChangeAt Go.RowKit Go.Deep
set_option maxRecDepth 100000

/-- What the document's shelf may lie in: no block of the shelf's, nor the variable. -/
def Out (lab : Lab) (X : Nat) : Nat → Prop := fun i => lab i = none ∧ i ≠ X
structure Aw (w0 : World) (x : Fx) (X : Nat) (lab : Lab) (s : Shl) (v : Rv) (w : World) : Prop where
  sm : ∃ A, Sm w x A lab s
  rs : Rs w (Out lab X) v s
  bs : Bs w X v
  xl : lab X = none
  lb : ∀ i, lab i ≠ none → w0.heap.size ≤ i
  xb : w0.heap.size ≤ X
  below : Below w0.heap.size w0 w
  fv : v.c = x.c ∧ v.B = (x.B : Int) ∧ v.K = x.K
/-- Between the shelf's act and the document's. -/
structure Ah (w0 : World) (x : Fx) (X : Nat) (lab : Lab) (s s' : Shl) (v : Rv) (w : World) : Prop where
  sm : ∃ A, Sm w x A lab s'
  rs : Rs w (Out lab X) v s
  bs : Bs w X v
  xl : lab X = none
  lb : ∀ i, lab i ≠ none → w0.heap.size ≤ i
  xb : w0.heap.size ≤ X
  below : Below w0.heap.size w0 w
  fv : v.c = x.c ∧ v.B = (x.B : Int) ∧ v.K = x.K
section
variable {w0 w w' : World} {x : Fx} {X : Nat} {lab : Lab} {s s' : Shl} {v v' : Rv}
theorem Aw.act (h : Aw w0 x X lab s v w) (hn : Nxt x lab s' w w') : ∃ lab', Ah w0 x X lab' s s' v w' := by
  obtain ⟨A', lab', r, ag, b⟩ := hn
  have hX : X < w.heap.size := B7.lt h.bs
  refine ⟨lab', ⟨A', r⟩, ?_, B7.but h.bs b (fun q => q h.xl), by rw [ag X hX]; exact h.xl, fun i hi => ?_, h.xb, h.below.trans (b.below h.below.size fun i hi q => ?_), h.fv⟩
  · exact (h.rs.swap (P' := Out lab' X) fun k hk p => ⟨by rw [ag k hk]; exact p.1, p.2⟩).but (b.mono fun i hi q p => q (by rw [← ag i hi]; exact p.1))
  · by_cases q : i < w.heap.size
    · rw [ag i q] at hi
      exact h.lb i hi
    · have := h.below.size
      omega
  · have := h.lb i q
    omega
theorem Ah.up (h : Ah w0 x X lab s s' v w) : Up w (Out lab X) := fun k hk => by
  obtain ⟨A, r⟩ := h.sm
  refine ⟨?_, ?_⟩
  · cases e : lab k with
    | none => rfl
    | some z => have := r.sr.fin k (by rw [e]; simp); omega
  · have := B7.lt h.bs
    omega
theorem Ah.next (h : Ah w0 x X lab s s' v w) (b6 : Below w.heap.size w w') (r6 : Rs w' (Out lab X) v' s') (sm : Same v v') : Aw w0 x X lab s' v' (set7 w' X (.slice v'.oa v'.K v'.oc) (.slice v'.fa v'.nf v'.fc) (.int .i64 v'.c) (.int .i64 v'.B) (.slice v'.na v'.N v'.nc) (.slice v'.pa v'.N v'.pc) (.slice v'.qa v'.M v'.qc)) := by
  obtain ⟨A, r⟩ := h.sm
  have hb := set7_but (t0 := .slice v'.oa v'.K v'.oc) (t1 := .slice v'.fa v'.nf v'.fc) (t2 := .int .i64 v'.c) (t3 := .int .i64 v'.B) (t4 := .slice v'.na v'.N v'.nc) (t5 := .slice v'.pa v'.N v'.pc) (t6 := .slice v'.qa v'.M v'.qc) w' X
  have bx := B7.below h.bs b6
  refine ⟨⟨A, (r.below b6).but hb (fun i e => by rw [e]; exact h.xl) ?_⟩, r6.but (hb.mono fun _ _ e p => p.2 e), B7.set bx, h.xl, h.lb, h.xb, (belowT h.below b6).trans (hb.one (belowT h.below b6).size h.xb), ?_⟩
  · intro i e _ z hz
    rw [e, bx.c0] at hz
    cases hz
  · obtain ⟨f1, f2, f3⟩ := h.fv
    obtain ⟨m1, m2, m3⟩ := sm
    exact ⟨m1.trans f1, m2.trans f2, m3.trans f3⟩
/-- What the document's Do does from between. -/
theorem Ah.do_ (h : Ah w0 x X lab s s' v w) (hK : x.K ≤ 1000) (hw : Sw x.K x.c x.B s) (kind page at_ own : Int) (hu : (Ac.mk kind page at_ own).fit) (u : World) (Q : Nat → Prop) (hr : Rs u Q v s) (up : Up u Q) :
    Calls Try.prog 14 #[(.agg #[.slice v.oa v.K v.oc, .slice v.fa v.nf v.fc, .int .i64 v.c, .int .i64 v.B, .slice v.na v.N v.nc, .slice v.pa v.N v.pc, .slice v.qa v.M v.qc]), .agg #[.int .u8 kind, .int .i64 page, .int .i64 at_, .int .i64 own]] u (RsEnds Q v (actS x.c x.B s ⟨kind, page, at_, own⟩).1 (fun u => .tuple #[u, .int .i64 (actS x.c x.B s ⟨kind, page, at_, own⟩).2.1, .int .i64 (actS x.c x.B s ⟨kind, page, at_, own⟩).2.2.1, .int .i64 (actS x.c x.B s ⟨kind, page, at_, own⟩).2.2.2]) u) := by
  obtain ⟨A, r⟩ := h.sm
  obtain ⟨f1, f2, f3⟩ := h.fv
  have := refShDo_any hr up (B := x.B) (K := x.K) (by rw [f1]; exact hw) f3 hK f2 r.sr.b1 r.sr.b2 kind page at_ own hu
  rw [← f1]
  exact this
theorem Aw.same (h : Aw w0 x X lab s v w) (hK : x.K ≤ 1000) : Calls Try.prog 15 #[.pointer (some ⟨x.s, 0, none⟩), .pointer (some ⟨x.pp, 0, none⟩), (.agg #[.slice v.oa v.K v.oc, .slice v.fa v.nf v.fc, .int .i64 v.c, .int .i64 v.B, .slice v.na v.N v.nc, .slice v.pa v.N v.pc, .slice v.qa v.M v.qc])] w (BB true w) := by
  obtain ⟨A, r⟩ := h.sm
  exact same13_any r h.rs hK h.fv.2.2 h.fv.2.1
theorem Aw.grow (h : Aw w0 x X lab s v w) (hb : Below w.heap.size w w') : Aw w0 x X lab s v w' := by
  obtain ⟨A, r⟩ := h.sm
  exact ⟨⟨A, r.below hb⟩, h.rs.on hb, B7.below h.bs hb, h.xl, h.lb, h.xb, belowT h.below hb, h.fv⟩
theorem Aw.sw (h : Aw w0 x X lab s v w) : Sw x.K x.c x.B s := by
  obtain ⟨A, r⟩ := h.sm
  exact r.sw
end
section
variable {w0 w w' : World} {x : Fx} {X : Nat} {lab lab' : Lab} {s s' : Shl} {v : Rv}
/-- The variable's cells, and an act's, at whatever is made behind. -/
theorem Aacts {c0 c1 c2 c3 : Value} {b o : Nat} (h4 : Ah w0 x X lab' s s' v w') (hc : w.cell? ⟨b, o, none⟩ = some c0 ∧ w.cell? ⟨b, o + 1, none⟩ = some c1 ∧ w.cell? ⟨b, o + 2, none⟩ = some c2 ∧ w.cell? ⟨b, o + 3, none⟩ = some c3) (hb : b < w0.heap.size) (hbw : Below w0.heap.size w w') (u : World) (hu : Below w'.heap.size w' u) :
    (u.cell? ⟨X, 0, none⟩ = some (.slice v.oa v.K v.oc) ∧ u.cell? ⟨X, 1, none⟩ = some (.slice v.fa v.nf v.fc) ∧ u.cell? ⟨X, 2, none⟩ = some (.int .i64 v.c) ∧ u.cell? ⟨X, 3, none⟩ = some (.int .i64 v.B) ∧ u.cell? ⟨X, 4, none⟩ = some (.slice v.na v.N v.nc) ∧ u.cell? ⟨X, 5, none⟩ = some (.slice v.pa v.N v.pc) ∧ u.cell? ⟨X, 6, none⟩ = some (.slice v.qa v.M v.qc)) ∧
    u.cell? ⟨b, o, none⟩ = some c0 ∧ u.cell? ⟨b, o + 1, none⟩ = some c1 ∧ u.cell? ⟨b, o + 2, none⟩ = some c2 ∧ u.cell? ⟨b, o + 3, none⟩ = some c3 := by
  have hs := h4.below.size
  have hl : b < w'.heap.size := by omega
  exact ⟨all7 (B7.below h4.bs hu), (hu.cell (p := ⟨b, o, none⟩) hl).trans ((hbw.cell (p := ⟨b, o, none⟩) hb).trans hc.1), (hu.cell (p := ⟨b, o + 1, none⟩) hl).trans ((hbw.cell (p := ⟨b, o + 1, none⟩) hb).trans hc.2.1), (hu.cell (p := ⟨b, o + 2, none⟩) hl).trans ((hbw.cell (p := ⟨b, o + 2, none⟩) hb).trans hc.2.2.1), (hu.cell (p := ⟨b, o + 3, none⟩) hl).trans ((hbw.cell (p := ⟨b, o + 3, none⟩) hb).trans hc.2.2.2)⟩
end
end Go.Proofs.Ytijkigibcpgciaa.Sh
