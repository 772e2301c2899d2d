import Derived.Test.YtijkigibcpgciaaZShGive
import Derived.Test.YtijkigibcpgciaaZShPlan
import Derived.Test.YtijkigibcpgciaaZShNew
import Derived.Test.YtijkigibcpgciaaZPlNew
import Derived.Test.YtijkigibcpgciaaZRecs
import Derived.Test.YtijkigibcpgciaaZGA
/-
  An act of shelf's laws (almeryref13.Act), as plain data, opened out of an argument; the law's own 'do'; a shelf that the law's call has made ('Hx').
-/
namespace Go.Proofs.Ytijkigibcpgciaa
open Go.ChangeShapes Go.WideShapes Go.ChangeAt Go.RowKit Go.Deep
set_option maxRecDepth 100000

structure Ac where
  kind : Int
  page : Int
  at_ : Int
  own : Int
instance : Inhabited Ac := ⟨⟨0, 0, 0, 0⟩⟩
def Ac.cells (u : Ac) : List Value := [.int .u8 u.kind, .int .i64 u.page, .int .i64 u.at_, .int .i64 u.own]
def Ac.fit (u : Ac) : Prop := (0 ≤ u.kind ∧ u.kind ≤ 255) ∧ Pl.Fit u.page ∧ Pl.Fit u.at_ ∧ Pl.Fit u.own
def Ac.ok (u : Ac) (_ : World) (_ : Nat) : Prop := u.fit
def Acts (w : World) (B : Nat) (a : Option Addr) (n : Nat) (us : List Ac) : Prop := Recs Ac.cells Ac.ok 4 w B a n us
theorem Acts.below {w w' : World} {B n : Nat} {a : Option Addr} {us : List Ac} (h : Acts w B a n us) (hb : Below B w w') : Acts w' B a n us := Recs.below h (fun _ q => q) hb
section
variable {H : Type} {enc : TypeId × Value → H} {w : World}
theorem u8_in {n : Nat} {u : Value} {y : DataW H × List MemPlace} (h : DataW.trod enc Try.prog w 0 (fun _ => true) true n 5 [u] = some y) : ∃ a : Int, u = .int .u8 a ∧ 0 ≤ a ∧ a ≤ 255 := by
  obtain ⟨a, e, _, hw⟩ := DataW.trod_int Try.underlying5 h
  simp at e
  exact ⟨a, e, wfu8 hw⟩
theorem act_cells (cs : List Value) (fuel : Nat) (x : DataW H × List MemPlace) (h : DataW.trod enc Try.prog w 0 (fun _ => true) true fuel 41 cs = some x) : ∃ u : Ac, cs = u.cells ∧ u.ok w w.heap.size := by
  obtain ⟨hl, hf⟩ := fields_of Try.underlying41 (by kernel_rfl) (by kernel_rfl) h
  match cs, hl with
  | [v0, v1, v2, v3], _ =>
    obtain ⟨u0, _, n0, e0, t0⟩ := hf 0 _ rfl
    obtain ⟨u1, _, n1, e1, t1⟩ := hf 1 _ rfl
    obtain ⟨u2, _, n2, e2, t2⟩ := hf 2 _ rfl
    obtain ⟨u3, _, n3, e3, t3⟩ := hf 3 _ rfl
    simp at e0 e1 e2 e3
    subst e0 e1 e2 e3
    obtain ⟨a0, rfl, f0⟩ := u8_in t0
    obtain ⟨a1, rfl, f1⟩ := i64_field t1
    obtain ⟨a2, rfl, f2⟩ := i64_field t2
    obtain ⟨a3, rfl, f3⟩ := i64_field t3
    exact ⟨⟨a0, a1, a2, a3⟩, rfl, f0, f1, f2, f3⟩
theorem acts_field {n : Nat} {u : Value} {y : DataW H × List MemPlace} (h : DataW.trod enc Try.prog w 0 (fun _ => true) true n 22 [u] = some y) : ∃ (a : Option Addr) (len cap : Nat) (us : List Ac), u = .slice a len cap ∧ len ≤ cap ∧ Acts w w.heap.size a len us :=
  recs_field Try.underlying22 (k := 4) (by kernel_rfl) (by decide) (fun _ => rfl) act_cells h
end
namespace Sh

/-- What an act comes to: the shelf behind it, the page, the block, what is wrong. -/
def actS (c : Int) (B : Nat) (s : Shl) (u : Ac) : Shl × Int × Int × Int :=
  if u.kind % 3 = 0 then takeOut c B s u.own else if u.kind % 3 = 1 then ((giveOut s u.page u.at_).1, 0, 0, (giveOut s u.page u.at_).2) else ((ownOut s u.page u.at_ u.own).1, 0, 0, (ownOut s u.page u.at_ u.own).2)
section
variable {w w0 v : World} {x : Fx} {A : Adr} {lab : Lab} {s t : Shl}
theorem Nxt.after (h : Nxt x lab s v w) (hb : Below w0.heap.size w0 v) : Nxt x lab s w0 w := by
  obtain ⟨A', lab', r, ag, b⟩ := h
  exact ⟨A', lab', r, fun i hi => ag i (Nat.lt_of_lt_of_le hi hb.size), (Below.but hb _).trans b⟩
theorem do13_any (h : Sm w x A lab s) (kind page at_ own : Int) (hu : (Ac.mk kind page at_ own).fit) :
    Calls Try.prog 13 #[.pointer (some ⟨x.s, 0, none⟩), .agg #[.int .u8 kind, .int .i64 page, .int .i64 at_, .int .i64 own]] w (ShEnds (.tuple #[.int .i64 (actS x.c x.B s ⟨kind, page, at_, own⟩).2.1, .int .i64 (actS x.c x.B s ⟨kind, page, at_, own⟩).2.2.1, .int .i64 (actS x.c x.B s ⟨kind, page, at_, own⟩).2.2.2]) x lab (actS x.c x.B s ⟨kind, page, at_, own⟩).1 w) := by
  obtain ⟨hk, hp, ha, ho⟩ := hu
  simp only at hk hp ha ho
  have e1 : kind.tmod 3 = kind % 3 := Int.tmod_eq_emod_of_nonneg hk.1
  rcases (by omega : kind % 3 = 0 ∨ kind % 3 = 1 ∨ kind % 3 = 2) with q | q | q
  · have x1 : actS x.c x.B s ⟨kind, page, at_, own⟩ = takeOut x.c x.B s own := by simp [actS, q]
    rw [x1]
    have H := Lib.hid (fun o => take_any (h.below (below1 w o)) own ho.2)
    generalize takeOut x.c x.B s own = r at H ⊢
    rw [q] at e1
    clear h x1
    go_enter Try.func13, Try.ntmps13
    go_wp2_with fail
    refine (H.out _).mono ?_
    rintro e w' ⟨rfl, n1⟩
    have HE := Lib.hid (n1.after (below1 w _))
    clear n1 H
    go_wp2
    go_ret3
    exact ⟨rfl, HE.out⟩
  · have x1 : actS x.c x.B s ⟨kind, page, at_, own⟩ = ((giveOut s page at_).1, 0, 0, (giveOut s page at_).2) := by simp [actS, q]
    rw [x1]
    have H := Lib.hid (fun o => give_any (h.below (below1 w o)) hp at_)
    generalize giveOut s page at_ = r at H ⊢
    rw [q] at e1
    clear h x1
    go_enter Try.func13, Try.ntmps13
    go_wp2_with fail
    refine (H.out _).mono ?_
    rintro e w' ⟨rfl, n1⟩
    have HE := Lib.hid (n1.after (below1 w _))
    clear n1 H
    go_wp2
    go_ret3
    exact ⟨rfl, HE.out⟩
  · have x1 : actS x.c x.B s ⟨kind, page, at_, own⟩ = ((ownOut s page at_ own).1, 0, 0, (ownOut s page at_ own).2) := by simp [actS, q]
    rw [x1]
    have H := Lib.hid (fun o => own_any (h.below (below1 w o)) hp at_ own ho.2)
    generalize ownOut s page at_ own = r at H ⊢
    rw [q] at e1
    clear h x1
    go_enter Try.func13, Try.ntmps13
    go_wp2_with fail
    refine (H.out _).mono ?_
    rintro e w' ⟨rfl, n1⟩
    have HE := Lib.hid (n1.after (below1 w _))
    clear n1 H
    go_wp2
    go_ret3
    exact ⟨rfl, HE.out⟩

/-- A shelf that lies behind all that was there in w0, and nothing of that has turned. -/
def Hx (w0 : World) (x : Fx) (s : Shl) (w : World) : Prop := ∃ A lab, Sm w x A lab s ∧ (∀ i, lab i ≠ none → w0.heap.size ≤ i) ∧ Below w0.heap.size w0 w
/-- How a call ends that answers v, and leaves such a shelf. -/
def HxEnds (v : Value) (w0 : World) (x : Fx) (s : Shl) (e : Ending) (w : World) : Prop := e = .returned v ∧ Hx w0 x s w
theorem Hx.next (hl : ∀ i, lab i ≠ none → w0.heap.size ≤ i) (hb : Below w0.heap.size w0 v) (h : Nxt x lab t v w) : Hx w0 x t w := by
  obtain ⟨A', lab', r, ag, b⟩ := h
  refine ⟨A', lab', r, fun i hi => ?_, hb.trans (b.below hb.size fun i hi q => ?_)⟩
  · by_cases q : i < v.heap.size
    · rw [ag i q] at hi
      exact hl i hi
    · have := hb.size
      omega
  · have := hl i q
    omega
theorem Hx.grow (h : Hx w0 x s v) (hb : Below v.heap.size v w) : Hx w0 x s w := by
  obtain ⟨A, lab, r, hl, b⟩ := h
  exact ⟨A, lab, r.below hb, hl, belowT b hb⟩
theorem Hx.take (h : Hx w0 x s w) (o : Int) (ho : o ≤ 9223372036854775807) : Calls Try.prog 17 #[.pointer (some ⟨x.s, 0, none⟩), .int .i64 o] w (HxEnds (.tuple #[.int .i64 (takeOut x.c x.B s o).2.1, .int .i64 (takeOut x.c x.B s o).2.2.1, .int .i64 (takeOut x.c x.B s o).2.2.2]) w0 x (takeOut x.c x.B s o).1) := by
  obtain ⟨A, lab, r, hl, b⟩ := h
  exact (take_any r o ho).mono fun e w' ⟨q1, q2⟩ => ⟨q1, Hx.next hl b q2⟩
theorem Hx.give (h : Hx w0 x s w) {n : Int} (hn : Pl.Fit n) (k : Int) : Calls Try.prog 25 #[.pointer (some ⟨x.s, 0, none⟩), .int .i64 n, .int .i64 k] w (HxEnds (.int .i64 (giveOut s n k).2) w0 x (giveOut s n k).1) := by
  obtain ⟨A, lab, r, hl, b⟩ := h
  exact (give_any r hn k).mono fun e w' ⟨q1, q2⟩ => ⟨q1, Hx.next hl b q2⟩
theorem Hx.act (h : Hx w0 x s w) (kind page at_ own : Int) (hu : (Ac.mk kind page at_ own).fit) :
    Calls Try.prog 13 #[.pointer (some ⟨x.s, 0, none⟩), .agg #[.int .u8 kind, .int .i64 page, .int .i64 at_, .int .i64 own]] w (HxEnds (.tuple #[.int .i64 (actS x.c x.B s ⟨kind, page, at_, own⟩).2.1, .int .i64 (actS x.c x.B s ⟨kind, page, at_, own⟩).2.2.1, .int .i64 (actS x.c x.B s ⟨kind, page, at_, own⟩).2.2.2]) w0 x (actS x.c x.B s ⟨kind, page, at_, own⟩).1) := by
  obtain ⟨A, lab, r, hl, b⟩ := h
  exact (do13_any r kind page at_ own hu).mono fun e w' ⟨q1, q2⟩ => ⟨q1, Hx.next hl b q2⟩
theorem Hx.plan (h : Hx w0 x s w) : Calls Try.prog 23 #[.pointer (some ⟨x.s, 0, none⟩)] w (HxEnds (planV (planS s)) w0 x s) := by
  obtain ⟨A, lab, r, hl, b⟩ := h
  exact (plan_any r.sr r.sw).mono fun e w' ⟨q1, q2⟩ => ⟨q1, A, lab, r.below q2, hl, belowT b q2⟩
theorem Hx.pages (h : Hx w0 x s w) : Calls Try.prog 21 #[.pointer (some ⟨x.s, 0, none⟩)] w (R1 (s.ps.length : Int) w) := by
  obtain ⟨A, lab, r, hl, b⟩ := h
  exact pages_any r.sr
theorem Hx.opens (h : Hx w0 x s w) : Calls Try.prog 19 #[.pointer (some ⟨x.s, 0, none⟩)] w (R1 (s.op.length : Int) w) := by
  obtain ⟨A, lab, r, hl, b⟩ := h
  exact open_any r.sr
theorem Hx.used (h : Hx w0 x s w) : Calls Try.prog 20 #[.pointer (some ⟨x.s, 0, none⟩)] w (R1 (usedS s.ps : Int) w) := by
  obtain ⟨A, lab, r, hl, b⟩ := h
  exact used_any r.sr
theorem Hx.owner (h : Hx w0 x s w) {n : Int} (hn : Pl.Fit n) {k : Int} (hk : Pl.Fit k) : Calls Try.prog 24 #[.pointer (some ⟨x.s, 0, none⟩), .int .i64 n, .int .i64 k] w (R1 (ownerS s n k) w) := by
  obtain ⟨A, lab, r, hl, b⟩ := h
  exact owner_any r.sr hn hk
theorem Hx.held (h : Hx w0 x s w) : Calls Try.prog 22 #[.pointer (some ⟨x.pp, 0, none⟩)] w (RQ ((x.K : Int) - (s.fl.length : Int)) w) := by
  obtain ⟨A, lab, r, hl, b⟩ := h
  exact Pl.held_any r.sr.pool
theorem Hx.free (h : Hx w0 x s w) : Calls Try.prog 26 #[.pointer (some ⟨x.pp, 0, none⟩)] w (R1 (s.fl.length : Int) w) := by
  obtain ⟨A, lab, r, hl, b⟩ := h
  exact Pl.free_any r.sr.pool
theorem Hx.powner (h : Hx w0 x s w) (i : Int) : Calls Try.prog 18 #[.pointer (some ⟨x.pp, 0, none⟩), .int .i64 i] w (R1 (Pl.ownOut s.O i) w) := by
  obtain ⟨A, lab, r, hl, b⟩ := h
  exact Pl.owner_any r.sr.pool i
/-- A pool, and a shelf on it. -/
theorem Hx.new {w1 w2 : World} {pp pa K B : Nat} {c : Int} {O fl : List Int} {e : Ending} (bp : Below w0.heap.size w0 w1) (l1 : w0.heap.size ≤ pp) (l2 : w0.heap.size ≤ pa) (h : ShNew pp pa K B c O fl w1 e w2) :
    ∃ x : Fx, e = .returned (.tuple #[.pointer (some ⟨x.s, 0, none⟩), .int .i64 0]) ∧ (x.pp = pp ∧ x.K = K ∧ x.B = B ∧ x.c = c) ∧ Hx w0 x ⟨O, fl, [], []⟩ w2 := by
  obtain ⟨x, A, lab, he, r, ⟨q1, q2, q3, q4, q5⟩, b, hl⟩ := h
  refine ⟨x, he, ⟨q1, q3, q4, q5⟩, A, lab, r, fun i hi => ?_, belowT bp b⟩
  have := hl i hi
  have := bp.size
  omega
end
end Sh
end Go.Proofs.Ytijkigibcpgciaa
