/-
  A range over a function whose iterator keeps rows of its own in memory, and writes into them between two rounds: a word for such an iterator ('Seq'), and the law of a loop over it. No statement about a Go function.
-/
import Derived.Test.YtmamihlilgmnaaaBut
import Derived.RangeFuncNested
import Derived.RangeFuncLeaves
import Derived.Shelf.Abstract
import Derived.OwnWalkIn
import Derived.TacticsInMore
import Derived.ControlIn
namespace Go.Proofs.Ytmamihlilgmnaaa
open Go.RowKit Go.Shelf

/-- The iterator 'gf', bound to lb, called in whatever world is from w0 on. Its rounds go from a state s to a state t: it hands over the values vs, and says Y B s vs t of the world, where B parts what was there when it was called from what it has made since. The caller says J s between two rounds, and Jx where a round has said 'no more'; the iterator turns but what it has made, the rounds but what lies below N, and the loop's own record l. -/
def Seq {σ : Type} (P : Program) (gf : Nat) (lb : Array Value) (Y : Nat → σ → Array Value → σ → World → Prop) (fin : σ → Prop) (s0 : σ) (N : Nat) (w0 : World) : Prop :=
  ∀ (l : Nat) (J : σ → World → Prop) (Jx : World → Prop) (W : World), Below w0.heap.size w0 W → w0.heap.size ≤ l → l < W.heap.size →
    (∀ s A B, J s A → But (W.heap.size ≤ ·) A B → J s B) →
    (∀ s vs t A, J s A → W.heap.size ≤ A.heap.size → Y W.heap.size s vs t A → YieldAt Fence.wide 1 P l vs A fun e B =>
      (e = .returned (.bool true) ∧ J t B ∧ But (fun k => k < N ∨ k = l) A B) ∨ (e = .returned (.bool false) ∧ Jx B)) →
    J s0 W → CallsIn Fence.wide 2 P gf (#[.func (.yield l) #[] #[]] ++ lb) W fun e B => (∃ v, e = .returned v) ∧ ((∃ s, fin s ∧ J s B) ∨ Jx B)

/-- How the body of a round may be left. -/
def roundEnds {σ : Type} (N : Nat) (I : σ → World → Prop) (Ix : Code → World → Prop) (t : σ) (W : World) : Exit → Act → World → Prop
  | .normal, _, W' => But (· < N) W W' ∧ I t W'
  | .ret, _, W' => But (· < N) W W' ∧ Ix .ret W'
  | .exit id, _, W' => But (· < N) W W' ∧ Ix (.exit id) W'
  | .goto j, _, W' => But (· < N) W W' ∧ Ix (.goto j) W'
  | .panic _, _, _ => False
  | .outgrown, _, _ => False

theorem But.putObj {S : Nat → Prop} {a w : World} (h : But S a w) {r : Nat} (hr : r < a.heap.size → S r) (o : Obj) : But S a (w.putObj r o) :=
  h.then (T := fun i => i = r) ⟨rfl, rfl, rfl, by simp, fun k _ hk => World.putObj_heap_other hk⟩ fun i hi e => by subst e; exact hr hi

/-- The statement 'for .. := range g { .. }' over such an iterator, outside of any other such loop. -/
theorem wp_range {σ : Type} {P : Program} {g : Operand} {ps : Array Tmp} {assign body : Code} {Q : Exit → Act → World → Prop} {a : Act} {w w0 : World} {gf : Nat} {lb : Array Value}
    (hg : a.eval g = .func (.func gf) #[] lb) (eg : ∀ args w, (callFunc gf args).run P w = .ok (.enter gf args) w)
    {Y : Nat → σ → Array Value → σ → World → Prop} {fin : σ → Prop} {s0 : σ} {N : Nat} (hseq : Seq P gf lb Y fin s0 N w0) (hN : N ≤ w.heap.size) (hb0 : Below w0.heap.size w0 w)
    (hY : ∀ B s vs t W W', Y B s vs t W → But (· < B) W W' → Y B s vs t W') (hps : ∀ B s vs t W, Y B s vs t W → vs.size = ps.size)
    (I : σ → World → Prop) (Ix : Code → World → Prop) (hI : ∀ s A B, I s A → But (w.heap.size ≤ ·) A B → I s B) (hIx : ∀ c A B, Ix c A → But (fun k => k = w.heap.size ∨ k = w.heap.size + 1) A B → Ix c B)
    (h0 : I s0 w) (a₁ : Array Value → Act)
    (hassign : ∀ (l B : Nat) (s : σ) (vs : Array Value) (t : σ) (W : World) (K : Act → World → Prop), Y B s vs t W → K (a₁ vs) W →
      assign.wpIn (Fence.wide.inRound l) 1 P (Exit.then K (fun _ _ _ => False)) { tmps := (ps.zip vs).foldl (fun t (p, v) => t.setIfInBounds p v) a.tmps, defers := [] } W)
    (hbody : ∀ (l B : Nat) (s : σ) (vs : Array Value) (t : σ) (W : World), w.heap.size + 2 ≤ B → B ≤ W.heap.size → I s W → Y B s vs t W → body.wpIn (Fence.wide.inRound l) 1 P (roundEnds N I Ix t W) (a₁ vs) W)
    (hdone : ∀ (s : σ) (W : World), fin s → I s W → W.heap[w.heap.size]? = some (.deferred (some [])) → Q .normal { a with defers := { target := .collected w.heap.size, args := #[] } :: a.defers } W)
    (hstop : ∀ (c : Code) (W : World), Ix c W → W.heap[w.heap.size]? = some (.deferred (some [])) → c.wpIn Fence.wide 3 P Q { a with defers := { target := .collected w.heap.size, args := #[] } :: a.defers } W) :
    (Code.rangeFunc g ps assign body).wp P Q a w := by
  refine (wpIn_wide (n := 3)).1 (wpIn_rangeFunc ?_)
  intro fn hfn
  show ∃ (l : Nat) (mark : List Deferred) (w₁ : World) (d : Deferred) (w₁' : World) (f : FuncId) (args : Array Value) (w₂ : World), (Instr.enterLoop fn a.tmps ps assign body none).run P w = .ok (l, mark) w₁ ∧ _
  obtain ⟨rec, hrec⟩ : ∃ rec : LoopState → Option Code → Loop, rec = fun st pe => { state := st, pending := pe, fn, tmps := a.tmps, params := ps, assign, body, defers := w.heap.size } := ⟨_, rfl⟩
  obtain ⟨W1, hW1⟩ : ∃ W1, (w.alloc (.deferred (some []))).alloc (.loop (rec .ready none)) = W1 := ⟨_, rfl⟩
  have hs1 : W1.heap.size = w.heap.size + 2 := by rw [← hW1]; simp
  have hL1 : W1.heap[w.heap.size + 1]? = some (.loop (rec .ready none)) := by
    rw [← hW1]; have := World.alloc_heap_new (w.alloc (.deferred (some []))) (.loop (rec .ready none)); rwa [World.size_alloc] at this
  have hK1 : W1.heap[w.heap.size]? = some (.deferred (some [])) := by
    rw [← hW1]; exact (Below.heap_alloc _ _ _ (by simp)).trans (World.alloc_heap_new w _)
  have bW1 : Below w.heap.size w W1 := by rw [← hW1]; exact ((Below.refl _ w).alloc (Nat.le_refl _) _).alloc (by simp) _
  have hI1 : I s0 W1 := hI _ _ _ h0 (Below.but bW1 _)
  have hb1 : Below w0.heap.size w0 W1 := hb0.trans (bW1.mono hb0.size)
  refine ⟨w.heap.size + 1, [{ target := .collected w.heap.size, args := #[] }], W1, { target := .fn (.func gf) lb, args := #[.func (.yield (w.heap.size + 1)) #[] #[]] }, W1, gf,
    #[.func (.yield (w.heap.size + 1)) #[] #[]] ++ lb, W1, ?_, ?_, fun _ _ => trivial, ?_, fun h => by simp [Fence.wide] at h, ?_⟩
  · rw [← hW1, hrec]; exact run_enterLoop_outer _ _ _ _ _
  · simp only [resolve, hg]
    simp [go_sem]
  · simp [invoke, go_sem, eg]
  · refine (hseq (w.heap.size + 1)
      (fun s W => I s W ∧ W.heap[w.heap.size + 1]? = some (.loop (rec .ready none)) ∧ W.heap[w.heap.size]? = some (.deferred (some [])))
      (fun W => ∃ c, Ix c W ∧ W.heap[w.heap.size + 1]? = some (.loop (rec .done (some c))) ∧ W.heap[w.heap.size]? = some (.deferred (some [])))
      W1 hb1 (by have := hb0.size; omega) (by omega) (fun s A B hs hb => ?_) ?_ ⟨hI1, hL1, hK1⟩).mono ?_
    · rw [hs1] at hb
      have l1 : w.heap.size + 1 < A.heap.size := (Array.getElem?_eq_some_iff.1 hs.2.1).1
      exact ⟨hI _ _ _ hs.1 (hb.mono fun i _ hi => by omega), (hb.block _ l1 (by omega)).trans hs.2.1, (hb.block _ (by omega) (by omega)).trans hs.2.2⟩
    · rintro s vs t A ⟨hi, hl, hk⟩ hsz hy
      rw [hs1] at hsz hy
      have hlt : w.heap.size + 1 < A.heap.size := (Array.getElem?_eq_some_iff.1 hl).1
      have hyl := run_yield (P := P) (args := vs) hl (by rw [hrec]; exact hps _ _ _ _ _ hy)
      rw [hrec] at hyl
      refine ⟨fn, _, assign, body, hyl, roundIn_of_wpIn hfn ?_⟩
      refine wpIn_mono (hassign _ _ s vs t A (fun a' W' => a' = a₁ vs ∧ W' = A) hy ⟨rfl, rfl⟩) ?_
      rintro e a' W' he
      cases e with
      | normal =>
        obtain ⟨rfl, rfl⟩ := he
        refine ⟨_, run_beginRound hl (by rw [hrec]), ?_⟩
        obtain ⟨W2, hW2⟩ : ∃ W2, W'.putObj (w.heap.size + 1) (.loop { rec .ready none with state := .busy }) = W2 := ⟨_, rfl⟩
        have hl2 : W2.heap[w.heap.size + 1]? = some (.loop { rec .ready none with state := .busy }) := by rw [← hW2]; exact World.putObj_heap_same hlt
        have hk2 : W2.heap[w.heap.size]? = some (.deferred (some [])) := by rw [← hW2]; exact (World.putObj_heap_other (by omega)).trans hk
        have bW2 : But (fun k => k = w.heap.size + 1) W' W2 := by rw [← hW2]; exact But.putObj (S := fun k => k = w.heap.size + 1) (But.refl _ _) (fun _ => rfl) _
        have hsz2 : w.heap.size + 2 ≤ W2.heap.size := Nat.le_trans hsz bW2.size
        rw [hW2]
        refine wpIn_mono (hbody _ _ s vs t W2 (Nat.le_refl _) hsz2 (hI _ _ _ hi (bW2.mono fun i _ q => by omega)) (hY _ _ _ _ _ _ hy (bW2.mono fun i _ q => by omega))) ?_
        have fin : ∀ (jump : Option Code) (W3 : World), But (· < N) W2 W3 →
            (Instr.endRound (w.heap.size + 1) jump).run P W3 = .ok (.bool jump.isNone) (W3.putObj (w.heap.size + 1) (.loop (rec (if jump.isNone then .ready else .done) jump))) ∧
            (W3.putObj (w.heap.size + 1) (.loop (rec (if jump.isNone then .ready else .done) jump))).heap[w.heap.size + 1]? = some (.loop (rec (if jump.isNone then .ready else .done) jump)) ∧
            (W3.putObj (w.heap.size + 1) (.loop (rec (if jump.isNone then .ready else .done) jump))).heap[w.heap.size]? = some (.deferred (some [])) := fun jump W3 b3 => by
          have hl3 := (b3.block (w.heap.size + 1) (by omega) (by omega)).trans hl2
          have hk3 := (b3.block w.heap.size (by omega) (by omega)).trans hk2
          have := run_endRound (P := P) jump hl3
          rw [hrec] at this ⊢
          exact ⟨this, World.putObj_heap_same (Array.getElem?_eq_some_iff.1 hl3).1, (World.putObj_heap_other (by omega)).trans hk3⟩
        have one : ∀ (W3 : World) (o : Obj), But (fun k => k = w.heap.size + 1) W3 (W3.putObj (w.heap.size + 1) o) := fun W3 o => But.putObj (S := fun k => k = w.heap.size + 1) (But.refl _ _) (fun _ => rfl) _
        rintro e a3 W3 hp
        cases e with
        | normal =>
          obtain ⟨b3, hi3⟩ := hp
          obtain ⟨hr, hl4, hk4⟩ := fin none W3 b3
          refine ⟨_, _, hr, .inl ⟨rfl, ⟨hI _ _ _ hi3 ((one _ _).mono fun i _ q => by omega), hl4, hk4⟩, ?_⟩⟩
          exact (((bW2.mono (T := fun k => k < N ∨ k = w.heap.size + 1) fun i _ q => .inr q).then b3 fun i _ q => .inl q).then (one _ _) fun i _ q => .inr q)
        | ret =>
          obtain ⟨b3, hi3⟩ := hp
          obtain ⟨hr, hl4, hk4⟩ := fin (some .ret) W3 b3
          exact ⟨_, _, hr, .inr ⟨rfl, .ret, hIx _ _ _ hi3 ((one _ _).mono fun i _ q => .inr q), hl4, hk4⟩⟩
        | exit id =>
          obtain ⟨b3, hi3⟩ := hp
          obtain ⟨hr, hl4, hk4⟩ := fin (some (.exit id)) W3 b3
          exact ⟨_, _, hr, .inr ⟨rfl, .exit id, hIx _ _ _ hi3 ((one _ _).mono fun i _ q => .inr q), hl4, hk4⟩⟩
        | goto j =>
          obtain ⟨b3, hi3⟩ := hp
          obtain ⟨hr, hl4, hk4⟩ := fin (some (.goto j)) W3 b3
          exact ⟨_, _, hr, .inr ⟨rfl, .goto j, hIx _ _ _ hi3 ((one _ _).mono fun i _ q => .inr q), hl4, hk4⟩⟩
        | panic ch => exact hp.elim
        | outgrown => exact hp.elim
      | exit id => exact he.elim
      | goto j => exact he.elim
      | ret => exact he.elim
      | panic ch => exact he.elim
      | outgrown => exact he.elim
    · rintro e W2 ⟨⟨v, rfl⟩, (⟨s, hf, hi, hl, hk⟩ | ⟨c, hi, hl, hk⟩)⟩
      · have := run_endLoop (P := P) hl (by rw [hrec]; simp)
        rw [hrec] at this
        exact ⟨none, _, this, hdone s _ hf (hI _ _ _ hi (((But.refl (fun k => k = w.heap.size + 1) _).putObj (fun _ => rfl) _).mono fun i _ q => by omega)) ((World.putObj_heap_other (by omega)).trans hk)⟩
      · have := run_endLoop (P := P) hl (by rw [hrec]; simp)
        rw [hrec] at this
        exact ⟨some c, _, this, hstop c _ (hIx _ _ _ hi (((But.refl (fun k => k = w.heap.size + 1) _).putObj (fun _ => rfl) _).mono fun i _ q => .inr q)) ((World.putObj_heap_other (by omega)).trans hk)⟩
end Go.Proofs.Ytmamihlilgmnaaa
