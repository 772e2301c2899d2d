/-
  Moves of package plan, of few counts that may be: how many moves it takes.
-/
import Derived.Test.YtghlngdmcfconaaPlanNext
namespace Go.Proofs.Ytghlngdmcfconaa
open Go.ChangeShapes Go.WideShapes Go.ChangeAt Go.RowKit Go.Deep Go.Shelf
attribute [local go_sem] Oper.semAt_some

/-- The loop of Moves: so many moves were made, and as many are left as xs takes. -/
structure Mx (w : World) (b k : Int) (xs0 xs : List Int) (W : World) : Prop where
  due : dueB xs.length k = true
  sum : ∃ m : Int, W.cell? ⟨w.heap.size + 2, 0, none⟩ = some (.int .i64 m) ∧ 0 ≤ m ∧ m + 20 * xs.length ≤ 20 * xs0.length ∧ mv b k xs0 = (mv b k xs).map (· + m)
  keep : W.cell? ⟨w.heap.size, 0, none⟩ = some (.int .i64 k)
  res : ∃ r : Value, W.cell? ⟨w.heap.size + 1, 0, none⟩ = some r
  thaw1 : W.frozen? ⟨w.heap.size + 1, 0, none⟩ = false
  thaw2 : W.frozen? ⟨w.heap.size + 2, 0, none⟩ = false
  below : Below w.heap.size w W
/-- Behind it: what is told. -/
structure Mx1 (w : World) (r : Int) (W : World) : Prop where
  res : W.cell? ⟨w.heap.size + 1, 0, none⟩ = some (.int .i64 r)
  below : Below w.heap.size w W
section
variable {w A B : World} {S : Nat → Prop} {b k r : Int} {xs0 xs : List Int}
theorem Mx.lt (h : Mx w b k xs0 xs A) : w.heap.size + 2 < A.heap.size := by
  obtain ⟨m, hm, _⟩ := h.sum
  exact lt_of_cell hm
theorem Mx.but (h : Mx w b k xs0 xs A) (hb : But S A B) (hS : ∀ j, j ≤ w.heap.size + 2 → ¬ S j) : Mx w b k xs0 xs B := by
  have hl := h.lt
  obtain ⟨m, hm, h0, h1, h2⟩ := h.sum
  obtain ⟨r, hr⟩ := h.res
  exact ⟨h.due, ⟨m, (hb.cell (p := ⟨w.heap.size + 2, 0, none⟩) hl (hS (w.heap.size + 2) (by omega))).trans hm, h0, h1, h2⟩, (hb.cell (p := ⟨w.heap.size, 0, none⟩) (by show w.heap.size < _; omega) (hS w.heap.size (by omega))).trans h.keep,
    ⟨r, (hb.cell (p := ⟨w.heap.size + 1, 0, none⟩) (by show w.heap.size + 1 < _; omega) (hS (w.heap.size + 1) (by omega))).trans hr⟩,
    (hb.frozen (p := ⟨w.heap.size + 1, 0, none⟩) (by show w.heap.size + 1 < _; omega) (hS (w.heap.size + 1) (by omega))).trans h.thaw1, (hb.frozen (p := ⟨w.heap.size + 2, 0, none⟩) hl (hS (w.heap.size + 2) (by omega))).trans h.thaw2,
    h.below.trans (hb.below h.below.size fun j hj => hS j (by omega))⟩
theorem Mx1.but (h : Mx1 w r A) (hb : But S A B) (hS : ∀ j, j ≤ w.heap.size + 2 → ¬ S j) : Mx1 w r B :=
  ⟨(hb.cell (p := ⟨w.heap.size + 1, 0, none⟩) (lt_of_cell h.res) (hS (w.heap.size + 1) (by omega))).trans h.res, h.below.trans (hb.below h.below.size fun j hj => hS j (by omega))⟩
end
/-- How Moves is left: the mark of its loop is taken, and what its result holds is told. -/
theorem moves_end {w W : World} {r : Int} {d : Nat} {tmps : Array Value} (h : Mx1 w r W) (hk : W.heap[d]? = some (.deferred (some []))) (h1 : w.heap.size + 2 < d) (ht : tmps[6]?.getD undef = .pointer (some ⟨w.heap.size + 1, 0, none⟩)) :
    bodyPostM Fence.wide 3 Try.prog Try.f17 (IB r w) .ret { tmps := tmps, defers := [{ target := .collected d, args := #[] }] } W := by
  have hb : But (fun k => k = d) W (W.putObj d (.deferred none)) := But.putObj (S := fun k => k = d) (But.refl _ _) (fun _ => rfl) _
  have n2 := h.but hb (fun k hk q => by omega)
  refine ⟨by simp, .inl ⟨d, _, rfl, run_takeDeferred hk, ?_⟩⟩
  have hc := n2.res
  refine ⟨.int .i64 r, ?_, rfl, n2.below⟩
  generalize W.putObj d (.deferred none) = W2 at *
  simp only [results, Try.results17]
  simp [ht, hc, go_sem]

set_option maxRecDepth 100000 in
set_option maxHeartbeats 2000000 in
theorem moves_off (a : Option Addr) (n c : Nat) (xs : List Int) (b k : Int) (w : World) (h : Ints w w.heap.size a n xs) (hk : -9223372036854775808 ≤ k ∧ k ≤ 9223372036854775807) (hd : dueB xs.length k = false) :
    Calls Try.prog 17 #[.slice a n c, .int .i64 b, .int .i64 k] w (IB (movesN b k xs) w) := by
  have hn := h.len
  have hm := h.max
  rw [movesN_off hd]
  have D : Hid (∀ v, Calls Try.prog 11 #[.int .i64 (n : Int), .int .i64 k] v (B1 false v)) := Lib.hid fun v => by
    have := due_any (n : Int) k v (by omega) hk
    rwa [← hn, hd, hn] at this
  clear hd
  go_enter Try.func17, Try.ntmps17
  go_wp2_with fail
  refine (D.out _).mono ?_
  rintro e w1 ⟨rfl, rfl⟩
  go_wp2
  refine bodyPost_ret (v := .int .i64 0) (by simp [results, Try.results17, go_sem]) rfl ?_
  exact ⟨rfl, below2 w _ _⟩

set_option maxRecDepth 100000 in
set_option maxHeartbeats 2000000 in
theorem moves_on (a : Option Addr) (n c : Nat) (xs : List Int) (b k : Int) (w : World) (h : Ints w w.heap.size a n xs) (hs : Sm b xs) (hk : -9223372036854775808 ≤ k ∧ k ≤ 9223372036854775807) (hd : dueB xs.length k = true) :
    Calls Try.prog 17 #[.slice a n c, .int .i64 b, .int .i64 k] w (IB (movesN b k xs) w) := by
  have hn := h.len
  have hm := h.max
  refine (callsIn_wide (n := 3)).1 ?_
  refine callsIn_of_wp_marks Try.func17 rfl trivial ?_ rfl
  refine wpIn_wide.2 ?_
  have D : Hid (∀ v, Calls Try.prog 11 #[.int .i64 (n : Int), .int .i64 k] v (B1 true v)) := Lib.hid fun v => by
    have := due_any (n : Int) k v (by omega) hk
    rwa [← hn, hd, hn] at this
  have DU : Hid (∀ (l : List Int), l.length ≤ 12 → ∀ v, Calls Try.prog 11 #[.int .i64 (l.length : Int), .int .i64 k] v (B1 (dueB l.length k) v)) := Lib.hid fun l hl v => due_any _ k v (by omega) hk
  have HD := Lib.hid hd
  have HI := Lib.hid h
  have HS := Lib.hid hs
  have HN := Lib.hid hn
  clear h hs hd hn
  simp only [Try.ntmps17, List.size_toArray, List.length_cons, List.length_nil, Nat.reduceAdd, Nat.reduceSub, Array.replicate_succ, Array.replicate_zero, List.push_toArray, List.append_toArray, List.nil_append, List.cons_append]
  go_wp2_with fail
  refine (D.out _).mono ?_
  rintro e w1 ⟨rfl, rfl⟩
  go_wp2_with fail
  refine (behind_any a n c b 9223372036854775807 _).mono ?_
  rintro e w1 ⟨rfl, bx, b1⟩
  simp only [World.size_alloc] at bx b1
  have b0 : Below w.heap.size w (((w.alloc (.cells #[.int .i64 k] 3)).alloc (.cells #[.int .i64 0] 3)).alloc (.cells #[.int .i64 0] 3)) := (below2 w _ _).alloc (by simp; omega) _
  have i1 : Ints w1 w1.heap.size a n xs := (HI.out.on b0).on (by simp only [World.size_alloc]; exact b1)
  have s1 := b1.size
  simp only [World.size_alloc] at s1
  have n1 : Mx w b k xs xs w1 := by
    refine ⟨HD.out, ⟨0, (b1.cell (p := ⟨w.heap.size + 2, 0, none⟩) (by show w.heap.size + 2 < _; omega)).trans ?_, by omega, by omega, by simp⟩, (b1.cell (p := ⟨w.heap.size, 0, none⟩) (by show w.heap.size < _; omega)).trans ?_, ⟨.int .i64 0, (b1.cell (p := ⟨w.heap.size + 1, 0, none⟩) (by show w.heap.size + 1 < _; omega)).trans ?_⟩,
      (b1.frozen (p := ⟨w.heap.size + 1, 0, none⟩) (by show w.heap.size + 1 < _; omega)).trans ?_, (b1.frozen (p := ⟨w.heap.size + 2, 0, none⟩) (by show w.heap.size + 2 < _; omega)).trans ?_, b0.trans (b1.mono (by omega))⟩
    · rw [World.cell?_alloc_at _ _ _ _ (by simp)]
      rfl
    · rw [World.cell?_alloc_past _ _ _ (by simp; omega), World.cell?_alloc_past _ _ _ (by simp), World.cell?_alloc_at _ _ _ _ rfl]
      rfl
    · rw [World.cell?_alloc_past _ _ _ (by simp), World.cell?_alloc_at _ _ _ _ (by simp)]
      rfl
    · rw [World.frozen?_alloc_past _ _ _ (by simp), World.frozen?_alloc_at _ _ _ _ (by simp)]
    · rw [World.frozen?_alloc_at _ _ _ _ (by simp)]
  have hl := bx.lt
  have SQ := Lib.hid (behind_seq (N := w.heap.size + 3) bx i1 HS.out ⟨by omega, by omega⟩ (by omega))
  have N1 := Lib.hid n1
  clear bx b1 i1 n1 b0
  go_wp2
  rename_i K hK
  refine wp_range (gf := 23) (lb := bound (w.heap.size + 1 + 1 + 1)) rfl (enters_of Try.func23 (by kernel_rfl) rfl) SQ.out (by omega) (Below.refl _ _)
    (fun B s vs t A A' h k => h.but k) (fun B s vs t A h => h.size)
    (fun s W => Mx w b k xs s W) (fun d W => d = .ret ∧ Mx1 w (movesN b k xs) W)
    (fun s A B h k => h.but k fun i hi q => by omega) (fun d A B h k => ⟨h.1, h.2.but k fun i hi q => by omega⟩)
    N1.out
    (fun vs => { tmps := #[.slice a n c, .int .i64 b, .int .i64 k, undef, undef, .pointer (some ⟨w.heap.size, 0, none⟩), .pointer (some ⟨w.heap.size + 1, 0, none⟩), .pointer (some ⟨w.heap.size + 1 + 1, 0, none⟩), vs[0]?.getD undef, vs[1]?.getD undef, .slice a n c, .int .i64 (n : Int), .int .i64 k, .bool true, .bool false, .slice a n c, .int .i64 b, .func (.func 23) #[] (bound (w.heap.size + 1 + 1 + 1)), vs[0]?.getD undef, vs[1]?.getD undef, undef, undef, undef, undef, undef, undef, undef, undef, undef], defers := [] }) ?assign ?body ?done ?stop
  case assign =>
    rintro l B s vs t W K2 ⟨_, _, _, et, a2, c2, rfl, _, _⟩ hk
    clear et
    gi_wp2
    exact hk
  case body =>
    rintro l B s vs t W hB hBW h0 ⟨h2, hs2, st, et, a2, c2, rfl, i2, o2⟩
    obtain ⟨q1, q2⟩ := amt_fit hs2.may h2
    have hb20 := hs2.blk
    have e1 : min 9223372036854775807 (amt b s) = amt b s := by omega
    rw [e1] at et ⊢
    have hlt := bulk_lt (b := b) h2
    have et' : bulkL b s = t := et.symm
    obtain ⟨m, hm1, m0, m1, hmv⟩ := h0.sum
    have h12 := HS.out.len
    rw [mv_bulk h0.due h2, et'] at hmv
    rw [et'] at hlt
    generalize amt b s = q at *
    have hw : IntKind.i64.wrap (m + q) = m + q := IntWalk.i64_in _ (by omega)
    obtain ⟨r, hr⟩ := h0.res
    have hm2 : W.cell? ⟨w.heap.size + 1 + 1, 0, none⟩ = some (.int .i64 m) := hm1
    have hz2 : W.frozen? ⟨w.heap.size + 1 + 1, 0, none⟩ = false := h0.thaw2
    have hz1 := h0.thaw1
    have hkp := h0.keep
    have DT := Lib.hid (DU.out t (by omega))
    have tl := st.len
    have b2 : But (· < w.heap.size + 3) W (W.setCell ⟨w.heap.size + 1 + 1, 0, none⟩ (.int .i64 (m + q))) := (But.refl _ _).setCell (p := ⟨w.heap.size + 1 + 1, 0, none⟩) (fun _ => by show w.heap.size + 1 + 1 < _; omega) _
    cases hdt : dueB t.length k with
    | true =>
      rw [hdt] at DT
      have E : Hid (Mx w b k xs t (W.setCell ⟨w.heap.size + 1 + 1, 0, none⟩ (.int .i64 (m + q)))) := Lib.hid (by
        refine ⟨hdt, ⟨m + q, World.cell?_setCell_same _ ⟨w.heap.size + 1 + 1, 0, none⟩ _ hm2, by omega, by omega, ?_⟩, ?_, ⟨r, ?_⟩, by rw [World.frozen?_setCell]; exact hz1, by rw [World.frozen?_setCell]; exact hz2, h0.below.setCell (p := ⟨w.heap.size + 1 + 1, 0, none⟩) (by show w.heap.size ≤ w.heap.size + 1 + 1; omega) _⟩
        · rw [hmv, Option.map_map]
          congr 1
          funext i
          show i + q + m = i + (m + q)
          omega
        · rw [World.cell?_setCell_other _ _ _ _ (by simp <;> omega)]; exact hkp
        · rw [World.cell?_setCell_other _ _ _ _ (by simp <;> omega)]; exact hr)
      have HB := Lib.hid b2
      clear b2 hmv et et' e1 i2 o2 h0 hdt hm1 SQ N1 hK
      gi_wp2_with (refine ⟨trivial, ?_⟩; gi_at_call 11; refine (CallsIn.inRound l (callsIn_wide.2 (DT.out _))).mono ?_; rintro e w' ⟨rfl, rfl⟩)
      exact ⟨HB.out, E.out⟩
    | false =>
      rw [hdt] at DT
      have em : movesN b k xs = m + q := by
        rw [movesN, hmv, mv_off hdt]
        show 0 + q + m = m + q
        omega
      have E : Hid (Mx1 w (movesN b k xs) ((W.setCell ⟨w.heap.size + 1 + 1, 0, none⟩ (.int .i64 (m + q))).setCell ⟨w.heap.size + 1, 0, none⟩ (.int .i64 (m + q)))) := Lib.hid (by
        rw [em]
        exact ⟨World.cell?_setCell_same _ ⟨w.heap.size + 1, 0, none⟩ _ (by rw [World.cell?_setCell_other _ _ _ _ (by simp <;> omega)]; exact hr),
          (h0.below.setCell (p := ⟨w.heap.size + 1 + 1, 0, none⟩) (by show w.heap.size ≤ w.heap.size + 1 + 1; omega) _).setCell (p := ⟨w.heap.size + 1, 0, none⟩) (by show w.heap.size ≤ w.heap.size + 1; omega) _⟩)
      have HB := Lib.hid (b2.setCell (p := ⟨w.heap.size + 1, 0, none⟩) (fun _ => by show w.heap.size + 1 < _; omega) (.int .i64 (m + q)))
      clear b2 hmv et et' e1 i2 o2 h0 hdt hm1 em SQ N1 hK
      gi_wp2_with (refine ⟨trivial, ?_⟩; gi_at_call 11; refine (CallsIn.inRound l (callsIn_wide.2 (DT.out _))).mono ?_; rintro e w' ⟨rfl, rfl⟩)
      exact ⟨HB.out, rfl, E.out⟩
  case done =>
    rintro s W hf h0 hk2
    have e2 : movesN b k xs = 0 := by
      obtain ⟨m, _, _, _, hmv⟩ := h0.sum
      rw [movesN, hmv, mv_never h0.due hf]
      rfl
    obtain ⟨r, hr⟩ := h0.res
    have hz := h0.thaw1
    have b3 : But (· = w.heap.size + 1) W (W.setCell ⟨w.heap.size + 1, 0, none⟩ (.int .i64 0)) := But.setCell (S := (· = w.heap.size + 1)) (But.refl _ _) (p := ⟨w.heap.size + 1, 0, none⟩) (fun _ => rfl) _
    have HE : Hid (Mx1 w 0 (W.setCell ⟨w.heap.size + 1, 0, none⟩ (.int .i64 0))) := Lib.hid ⟨World.cell?_setCell_same _ ⟨w.heap.size + 1, 0, none⟩ _ hr, h0.below.setCell (p := ⟨w.heap.size + 1, 0, none⟩) (by show w.heap.size ≤ w.heap.size + 1; omega) _⟩
    have HK := Lib.hid ((b3.block _ (Array.getElem?_eq_some_iff.1 hk2).1 (by omega)).trans hk2)
    rw [e2] at hK
    refine hK _ _ ?_
    clear b3 e2 h0 hk2 SQ N1 hK
    go_wp2
    exact moves_end HE.out HK.out (by omega) rfl
  case stop =>
    rintro d W ⟨rfl, h1⟩ hk2
    have H1 := Lib.hid h1
    have HK := Lib.hid hk2
    clear h1 hk2 SQ N1 hK
    gi_wp2
    exact moves_end H1.out HK.out (by omega) rfl

theorem moves_any (a : Option Addr) (n c : Nat) (xs : List Int) (b k : Int) (w : World) (h : Ints w w.heap.size a n xs) (hs : Sm b xs) (hk : -9223372036854775808 ≤ k ∧ k ≤ 9223372036854775807) :
    Calls Try.prog 17 #[.slice a n c, .int .i64 b, .int .i64 k] w (IB (movesN b k xs) w) := by
  cases hd : dueB xs.length k with
  | true => exact moves_on a n c xs b k w h hs hk hd
  | false => exact moves_off a n c xs b k w h hk hd
end Go.Proofs.Ytghlngdmcfconaa
