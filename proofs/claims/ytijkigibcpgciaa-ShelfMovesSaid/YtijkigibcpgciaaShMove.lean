/-
  What may move, of a plain shelf, and what is left when it has; and shelves of which more is kept ('Hk'). No statement about a Go function but Take, Give, told again.
-/
import Derived.Test.YtijkigibcpgciaaShTight
namespace Go.Proofs.Ytijkigibcpgciaa.Sh
open Pg (holeOf topOf usedN ow ownerOf)

section
variable {K B : Nat} {c : Int} {s : Shl}
theorem top_cases {X : List Int} (h : 1 ≤ usedN X) : ∃ j : Nat, topOf X = (j : Int) ∧ j < X.length ∧ ow X j ≠ -1 := by
  rcases Pg.high_cases (Pg.usedL X) with ⟨_, q⟩ | ⟨i, q1, q2, q3, _⟩
  · exfalso
    have : usedN X = 0 := by
      unfold usedN
      rw [List.count_eq_zero]
      intro hm
      obtain ⟨j, hj, e⟩ := List.getElem_of_mem hm
      have := q j
      unfold Pg.bt at this
      rw [List.getElem?_eq_getElem hj, e] at this
      cases this
    omega
  · exact ⟨i, q1, by rwa [Pg.used_len] at q2, by rw [Pg.used_bt] at q3; simpa using q3⟩
/-- The numbers of a move. -/
structure Mv (c : Int) (B : Nat) (s : Shl) (f t o : Int) (i j : Nat) (s1 s2 : Shl) : Prop where
  plan : planS s = some (f, (j : Int), t, (i : Int))
  ne : f ≠ t
  ff : Pl.Fit f
  ft : Pl.Fit t
  fi : Pl.Fit (i : Int)
  fj : Pl.Fit (j : Int)
  own : ownerS s f (j : Int) = o
  free : ownerS s t (i : Int) = -1
  o0 : 0 ≤ o
  o1 : o ≤ 9223372036854775807
  take : takeOut c B s o = (s1, t, (i : Int), 0)
  give : giveOut s1 f (j : Int) = (s2, 0)
  fewer : s2.op.length ≤ s.op.length
  used : usedS s2.ps = usedS s.ps
theorem moves (h : Sw K c B s) (hu : Uw s) (hK : K ≤ 1024) (hB : B ≤ 512) (ho : 2 ≤ s.op.length) : ∃ f t o i j s1 s2, Mv c B s f t o i j s1 s2 := by
  have hne : s.op ≠ [] := fun e => by rw [e] at ho; simp at ho
  obtain ⟨t, r, er⟩ : ∃ t r, s.op = t :: r := by
    cases q : s.op with
    | nil => exact absurd q hne
    | cons t r => exact ⟨t, r, rfl⟩
  have hr : r ≠ [] := fun e => by rw [er, e] at ho; simp at ho
  obtain ⟨f, ef⟩ : ∃ f, f = r.getLast hr := ⟨_, rfl⟩
  have hfr : f ∈ r := by rw [ef]; exact List.getLast_mem hr
  have hnd := h.opn
  rw [er] at hnd
  obtain ⟨n1, n2⟩ := List.nodup_cons.1 hnd
  have hft : f ≠ t := fun e => n1 (by rw [← e]; exact hfr)
  have e1 : s.op.getLastD (-1) = f := by
    rw [er, List.getLastD_eq_getLast?, List.getLast?_eq_some_getLast (by simp)]
    rw [ef]
    simp [List.getLast_cons hr]
  have e2 : s.op.headD (-1) = t := by rw [er]; rfl
  have hfo : f ∈ s.op := by rw [er]; exact List.mem_cons_of_mem _ hfr
  have hto : t ∈ s.op := by rw [er]; exact List.mem_cons_self
  obtain ⟨XF, hF, hhF⟩ := (h.opm f).1 hfo
  obtain ⟨XT, hT, hhT⟩ := (h.opm t).1 hto
  obtain ⟨j, ej, jl, jo⟩ := top_cases (hu f XF hF)
  obtain ⟨i, ei, il, io⟩ : ∃ i : Nat, holeOf XT = (i : Int) ∧ i < XT.length ∧ ow XT i = -1 := by
    rcases Pg.hole_cases XT with ⟨q, _⟩ | ⟨i, q1, q2, q3, _⟩
    · exact absurd q hhT
    · exact ⟨i, q1, q2, q3⟩
  have pF := h.pn f XF hF
  have lF := h.len f XF hF
  have lT := h.len t XT hT
  obtain ⟨kf, rfl, hkf, _⟩ := h.own f (mem_nums hF)
  obtain ⟨kt, rfl, hkt, _⟩ := h.own t (mem_nums hT)
  have gF := mem_get h.nod hF
  have gT := mem_get h.nod hT
  have oF := pF.ow j
  have o0 : 0 ≤ ow XF j := by
    have := jo
    omega
  obtain ⟨f1, f2, f3⟩ := h.fill hT ei o0 oF.2 (fun m Z hm _ => hu m Z hm)
  have hF1 : ((kf : Int), XF) ∈ (fillS s (kt : Int) (ow XF j) XT).ps := mem_set.2 (Or.inr ⟨hft, hF⟩)
  obtain ⟨g1, g2, g3⟩ := f1.gave hF1 jl jo
  have eT : takeOut c B s (ow XF j) = (fillS s (kt : Int) (ow XF j) XT, (kt : Int), (i : Int), 0) := by
    unfold takeOut
    rw [if_neg (by omega), if_neg (fun q => hne q.1), if_neg hne]
    dsimp only
    rw [e2]
    have ep : pageAt s (kt : Int) = XT := by unfold pageAt; rw [gT]; rfl
    rw [ep, (Pg.take_at o0 ei).2.1]
  have hop1 : (fillS s (kt : Int) (ow XF j) XT).op.length ≤ s.op.length := by
    unfold fillS
    dsimp only
    split
    · exact List.length_erase_le
    · exact Nat.le_refl _
  have eG : ∃ s2, giveOut (fillS s (kt : Int) (ow XF j) XT) (kf : Int) (j : Int) = (s2, 0) ∧ s2.op.length ≤ s.op.length ∧ usedS s2.ps = usedS s.ps := by
    unfold giveOut
    rw [mem_get f1.nod hF1]
    dsimp only
    rw [(Pg.give_at jl jo).1, (Pg.give_at jl jo).2, if_neg (by simp), if_neg hhF]
    split
    · rename_i hz
      refine ⟨_, rfl, Nat.le_trans List.length_erase_le hop1, ?_⟩
      have := used_del f1.nod hF1
      have hz2 := Pg.usedN_free jl jo
      show usedS (delP (fillS s (kt : Int) (ow XF j) XT).ps (kf : Int)) = _
      omega
    · refine ⟨_, rfl, hop1, ?_⟩
      show usedS (setP (fillS s (kt : Int) (ow XF j) XT).ps (kf : Int) (XF.set j (-1))) = _
      omega
  obtain ⟨s2, eg, q1, q2⟩ := eG
  refine ⟨(kf : Int), (kt : Int), ow XF j, i, j, _, s2, ?_, hft, ⟨by omega, by omega⟩, ⟨by omega, by omega⟩, ⟨by omega, by omega⟩, ⟨by omega, by omega⟩, ?_, ?_, o0, oF.2, eT, eg, q1, q2⟩
  · unfold planS
    rw [if_neg (by omega)]
    dsimp only
    rw [e1, e2]
    unfold pageAt
    rw [gF, gT]
    show some ((kf : Int), topOf XF, (kt : Int), holeOf XT) = _
    rw [ej, ei]
  · unfold ownerS
    rw [gF]
    exact Pg.ownerOf_nat jl
  · unfold ownerS
    rw [gT]
    show ownerOf XT (i : Int) = -1
    rw [Pg.ownerOf_nat il, io]
end

section
variable {v0 v w : World} {x : Fx} {A : Adr} {lab : Lab} {s t : Shl} {Q : Nat → Prop}
/-- A shelf none of whose blocks is in Q; what was in Q at v0 is as it was. -/
def Hk (v0 : World) (Q : Nat → Prop) (x : Fx) (s : Shl) (w : World) : Prop := ∃ A lab, Sm w x A lab s ∧ (∀ i, i < v0.heap.size → Q i → lab i = none) ∧ But (fun i => ¬ Q i) v0 w
theorem Hk.next (hl : ∀ i, i < v0.heap.size → Q i → lab i = none) (hb : But (fun i => ¬ Q i) v0 v) (h : Nxt x lab t v w) : Hk v0 Q x t w := by
  obtain ⟨A', lab', r, ag, b⟩ := h
  refine ⟨A', lab', r, fun i hi q => ?_, hb.then b fun i hi n q => n (hl i hi q)⟩
  rw [ag i (Nat.lt_of_lt_of_le hi hb.size)]
  exact hl i hi q
theorem Hk.take (h : Hk v0 Q x s w) (o : Int) (ho : o ≤ 9223372036854775807) : Calls Try.prog 17 #[.pointer (some ⟨x.s, 0, none⟩), .int .i64 o] w fun e w' => e = .returned (.tuple #[.int .i64 (takeOut x.c x.B s o).2.1, .int .i64 (takeOut x.c x.B s o).2.2.1, .int .i64 (takeOut x.c x.B s o).2.2.2]) ∧ Hk v0 Q x (takeOut x.c x.B s o).1 w' := by
  obtain ⟨A, lab, r, hl, b⟩ := h
  exact (take_any r o ho).mono fun e w' ⟨q1, q2⟩ => ⟨q1, Hk.next hl b q2⟩
theorem Hk.give (h : Hk v0 Q x s w) {n : Int} (hn : Pl.Fit n) (k : Int) : Calls Try.prog 25 #[.pointer (some ⟨x.s, 0, none⟩), .int .i64 n, .int .i64 k] w fun e w' => e = .returned (.int .i64 (giveOut s n k).2) ∧ Hk v0 Q x (giveOut s n k).1 w' := by
  obtain ⟨A, lab, r, hl, b⟩ := h
  exact (give_any r hn k).mono fun e w' ⟨q1, q2⟩ => ⟨q1, Hk.next hl b q2⟩
theorem Hk.opens (h : Hk v0 Q x s w) : Calls Try.prog 19 #[.pointer (some ⟨x.s, 0, none⟩)] w (R1 (s.op.length : Int) w) := by
  obtain ⟨A, lab, r, hl, b⟩ := h
  exact open_any r.sr
theorem Hk.used (h : Hk v0 Q x s w) : Calls Try.prog 20 #[.pointer (some ⟨x.s, 0, none⟩)] w (R1 (usedS s.ps : Int) w) := by
  obtain ⟨A, lab, r, hl, b⟩ := h
  exact used_any r.sr
theorem Hk.owner (h : Hk v0 Q x s w) {n : Int} (hn : Pl.Fit n) {k : Int} (hk : Pl.Fit k) : Calls Try.prog 24 #[.pointer (some ⟨x.s, 0, none⟩), .int .i64 n, .int .i64 k] w (R1 (ownerS s n k) w) := by
  obtain ⟨A, lab, r, hl, b⟩ := h
  exact owner_any r.sr hn hk
theorem Hk.pages (h : Hk v0 Q x s w) : Calls Try.prog 21 #[.pointer (some ⟨x.s, 0, none⟩)] w (R1 (s.ps.length : Int) w) := by
  obtain ⟨A, lab, r, hl, b⟩ := h
  exact pages_any r.sr
end
end Go.Proofs.Ytijkigibcpgciaa.Sh
