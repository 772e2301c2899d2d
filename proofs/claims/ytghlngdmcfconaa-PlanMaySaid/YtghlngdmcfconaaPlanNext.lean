/-
  Next of package plan, of few counts that may be: the counts behind one move, in new memory.
-/
import Derived.Test.YtghlngdmcfconaaPlanSeq
namespace Go.Proofs.Ytghlngdmcfconaa
open Go.ChangeShapes Go.WideShapes Go.ChangeAt Go.RowKit Go.Deep Go.Shelf
attribute [local go_sem] Oper.semAt_some

/-- How a call ends that tells ints, all memory that was there as it was. -/
def Lists (xs : List Int) (w : World) (e : Ending) (w' : World) : Prop := ∃ a c, e = .returned (.slice a xs.length c) ∧ Ints w' w'.heap.size a xs.length xs ∧ Below w.heap.size w w'

/-- The loop of Next ahead of its round: nothing is told yet. -/
structure Nx0 (w : World) (W : World) : Prop where
  res : W.cell? ⟨w.heap.size, 0, none⟩ = some (.slice none 0 0)
  thaw : W.frozen? ⟨w.heap.size, 0, none⟩ = false
  below : Below w.heap.size w W
/-- And behind it: what is told lies in new memory, from block B on. -/
structure Nx1 (w : World) (ys : List Int) (B : Nat) (W : World) : Prop where
  tells : ∃ a c, W.cell? ⟨w.heap.size, 0, none⟩ = some (.slice a ys.length c) ∧ Ints W W.heap.size a ys.length ys ∧ (0 < ys.length → ∃ g o, a = some ⟨g, o, none⟩ ∧ B ≤ g)
  below : Below w.heap.size w W
theorem Nx0.but {w A B : World} {S : Nat → Prop} (h : Nx0 w A) (hb : But S A B) (hS : ∀ k, k ≤ w.heap.size → ¬ S k) : Nx0 w B := by
  have hl := lt_of_cell h.res
  have := h.below.size
  exact ⟨(hb.cell (p := ⟨w.heap.size, 0, none⟩) hl (hS w.heap.size (Nat.le_refl _))).trans h.res, (hb.frozen (p := ⟨w.heap.size, 0, none⟩) hl (hS w.heap.size (Nat.le_refl _))).trans h.thaw, h.below.trans (hb.below this fun k hk => hS k (by omega))⟩
theorem Nx1.but {w A B : World} {S : Nat → Prop} {ys : List Int} {D : Nat} (h : Nx1 w ys D A) (hb : But S A B) (hS : ∀ k, k ≤ w.heap.size → ¬ S k) (hD : ∀ k, D ≤ k → ¬ S k) : Nx1 w ys D B := by
  obtain ⟨a, c, hc, hi, ho⟩ := h.tells
  have hl := lt_of_cell hc
  have := h.below.size
  refine ⟨⟨a, c, (hb.cell (p := ⟨w.heap.size, 0, none⟩) hl (hS w.heap.size (Nat.le_refl _))).trans hc, (hi.far hb (Nat.le_refl _) fun hn => ?_).more hb.size, ho⟩, h.below.trans (hb.below this fun k hk => hS k (by omega))⟩
  obtain ⟨g, o, e, hg⟩ := ho hn
  exact ⟨g, o, e, hD g hg⟩

/-- How Next is left: the mark of its loop is taken, and what its result holds is told. -/
theorem next_end {w W : World} {ys : List Int} {D d : Nat} {tmps : Array Value} (h : Nx1 w ys D W) (hk : W.heap[d]? = some (.deferred (some []))) (h1 : w.heap.size < d) (h2 : d < D) (ht : tmps[4]?.getD undef = .pointer (some ⟨w.heap.size, 0, none⟩)) :
    bodyPostM Fence.wide 3 Try.prog Try.f15 (Lists ys w) .ret { tmps := tmps, defers := [{ target := .collected d, args := #[] }] } W := by
  have hb : But (fun k => k = d) W (W.putObj d (.deferred none)) := But.putObj (S := fun k => k = d) (But.refl _ _) (fun _ => rfl) _
  have n2 := h.but hb (fun k hk q => by omega) (fun k hk q => by omega)
  refine ⟨by simp, .inl ⟨d, _, rfl, run_takeDeferred hk, ?_⟩⟩
  obtain ⟨a, c, hc, hi, ho⟩ := n2.tells
  refine ⟨.slice a ys.length c, ?_, a, c, rfl, hi, n2.below⟩
  generalize W.putObj d (.deferred none) = W2 at *
  simp only [results, Try.results15]
  simp [ht, hc, go_sem]

set_option maxRecDepth 100000 in
set_option maxHeartbeats 2000000 in
theorem next_any (a : Option Addr) (n c : Nat) (xs : List Int) (b : Int) (w : World) (h : Ints w w.heap.size a n xs) (hs : Sm b xs) :
    Calls Try.prog 15 #[.slice a n c, .int .i64 b] w (Lists (nextL b xs) w) := by
  refine (callsIn_wide (n := 3)).1 ?_
  refine callsIn_of_wp_marks Try.func15 rfl trivial ?_ rfl
  refine wpIn_wide.2 ?_
  have HI := Lib.hid h
  have HS := Lib.hid hs
  clear h hs
  simp only [Try.ntmps15, List.size_toArray, List.length_cons, List.length_nil, Nat.reduceAdd, Nat.reduceSub, Array.replicate_succ, Array.replicate_zero, List.push_toArray, List.append_toArray, List.nil_append, List.cons_append]
  go_wp2_with fail
  refine (behind_any a n c b 1 _).mono ?_
  rintro e w1 ⟨rfl, bx, b1⟩
  simp only [World.size_alloc] at bx b1
  have i1 : Ints w1 w1.heap.size a n xs := (HI.out.on (below1 w _)).on (by rw [World.size_alloc]; exact b1)
  have n1 : Nx0 w w1 := ⟨(b1.cell (p := ⟨w.heap.size, 0, none⟩) (by simp)).trans (by simp), (b1.frozen (p := ⟨w.heap.size, 0, none⟩) (by simp)).trans (by simp), (below1 w _).trans (b1.mono (by omega))⟩
  have s1 := b1.size
  simp only [World.size_alloc] at s1
  have hl := bx.lt
  have SQ := Lib.hid (behind_seq (N := w.heap.size + 1) bx i1 HS.out ⟨by omega, by omega⟩ (Nat.le_refl _))
  have N1 := Lib.hid n1
  clear bx b1 i1 n1
  go_wp2
  rename_i K hK
  refine wp_range (gf := 23) (lb := bound (w.heap.size + 1)) rfl (enters_of Try.func23 (by kernel_rfl) rfl) SQ.out (by omega) (Below.refl _ _)
    (fun B s vs t A A' h k => h.but k) (fun B s vs t A h => h.size)
    (fun s W => s = xs ∧ Nx0 w W) (fun d W => d = .ret ∧ Nx1 w (nextL b xs) (w1.heap.size + 2) W)
    (fun s A B h k => ⟨h.1, h.2.but k fun i hi q => by omega⟩) (fun d A B h k => ⟨h.1, h.2.but k (fun i hi q => by omega) fun i hi q => by omega⟩)
    ⟨rfl, N1.out⟩
    (fun vs => { tmps := #[.slice a n c, .int .i64 b, undef, undef, .pointer (some ⟨w.heap.size, 0, none⟩), undef, vs[1]?.getD undef, .slice a n c, .int .i64 b, .func (.func 23) #[] (bound (w.heap.size + 1)), vs[0]?.getD undef, vs[1]?.getD undef, undef, undef, undef], defers := [] }) ?assign ?body ?done ?stop
  case assign =>
    rintro l B s vs t W K2 ⟨_, _, _, et, a2, c2, rfl, _, _⟩ hk
    clear et
    gi_wp2
    exact hk
  case body =>
    rintro l B s vs t W hB hBW ⟨rfl, h0⟩ ⟨h2, hs2, st, et, a2, c2, rfl, i2, o2⟩
    have e1 : min 1 (amt b s) = 1 := by have := (amt_fit hs2.may h2).1; omega
    have e2 : nextL b s = t := by rw [et, e1, nextL, if_neg (by omega)]
    rw [e1]
    have hc := h0.res
    have hf := h0.thaw
    have hb : But (· < w.heap.size + 1) W (W.setCell ⟨w.heap.size, 0, none⟩ (.slice a2 t.length c2)) := (But.refl _ _).setCell (p := ⟨w.heap.size, 0, none⟩) (fun _ => by show w.heap.size < _; omega) _
    have E : Hid (Nx1 w (nextL b s) (w1.heap.size + 2) (W.setCell ⟨w.heap.size, 0, none⟩ (.slice a2 t.length c2))) := Lib.hid (by
      rw [e2]
      have hO := o2.but i2 hb (fun k hk q => by omega)
      refine ⟨⟨a2, c2, World.cell?_setCell_same _ _ _ hc, hO.2, fun q => ?_⟩, h0.below.setCell (p := ⟨w.heap.size, 0, none⟩) (Nat.le_refl _) _⟩
      obtain ⟨g, o, e, hg, _⟩ := hO.1.2 q
      exact ⟨g, o, e, by omega⟩)
    have HB := Lib.hid hb
    clear hb e1 e2 et i2 o2 SQ N1 hK
    gi_wp2
    exact ⟨HB.out, rfl, E.out⟩
  case done =>
    rintro s W hf ⟨rfl, h0⟩ hk
    have e2 : nextL b s = s := nextL_few hf
    have hc := h0.res
    have hz := h0.thaw
    have hsz := h0.below.size
    have iW : Ints W W.heap.size a n s := HI.out.on h0.below
    have CL := Lib.hid (clone_any a n c s W iW (by rw [← iW.len]; have := HS.out.len; omega))
    have H0 := Lib.hid h0
    have HK := Lib.hid hk
    rw [e2] at hK
    refine hK _ _ ?_
    clear iW h0 hk SQ N1 e2
    go_wp2_with fail
    refine CL.out.mono ?_
    rintro e W2 ⟨a2, c2, rfl, i2, o2, b2⟩
    have hc2 : W2.cell? ⟨w.heap.size, 0, none⟩ = some (.slice none 0 0) := (b2.cell (p := ⟨w.heap.size, 0, none⟩) (lt_of_cell hc)).trans hc
    have hz2 : W2.frozen? ⟨w.heap.size, 0, none⟩ = false := (b2.frozen (p := ⟨w.heap.size, 0, none⟩) (lt_of_cell hc)).trans hz
    have hd := (Array.getElem?_eq_some_iff.1 HK.out).1
    have b3 : But (· = w.heap.size) W2 (W2.setCell ⟨w.heap.size, 0, none⟩ (.slice a2 n c2)) := But.setCell (S := (· = w.heap.size)) (But.refl _ _) (p := ⟨w.heap.size, 0, none⟩) (fun _ => rfl) _
    have HK3 : Hid ((W2.setCell ⟨w.heap.size, 0, none⟩ (.slice a2 n c2)).heap[w1.heap.size]? = some (.deferred (some []))) := Lib.hid (((b3.block _ (by have := b2.size; omega) (by omega)).trans (b2.block _ hd)).trans HK.out)
    have HE : Hid (Nx1 w s W.heap.size (W2.setCell ⟨w.heap.size, 0, none⟩ (.slice a2 n c2))) := Lib.hid (by
      have hO := o2.but i2 b3 (fun k hk q => by omega)
      have hn : s.length = n := HI.out.len
      refine ⟨⟨a2, c2, by rw [hn]; exact World.cell?_setCell_same _ _ _ hc2, by rw [hn]; exact hO.2, fun q => ?_⟩, (H0.out.below.trans (b2.mono hsz)).setCell (p := ⟨w.heap.size, 0, none⟩) (Nat.le_refl _) _⟩
      obtain ⟨g, o, e, hg, _⟩ := hO.1.2 (by rw [hn] at q; exact q)
      exact ⟨g, o, e, hg⟩)
    clear b3 i2 o2 b2
    go_wp2
    exact next_end HE.out HK3.out (by omega) hd rfl
  case stop =>
    rintro d W ⟨rfl, h1⟩ hk
    have H1 := Lib.hid h1
    have HK := Lib.hid hk
    clear h1 hk SQ N1 hK
    gi_wp2
    exact next_end H1.out HK.out (by omega) (by omega) rfl
end Go.Proofs.Ytghlngdmcfconaa
