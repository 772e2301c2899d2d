/-
  A slice of floats that reads as a list of bits, nil let in, in a word of its own; and how it is kept while memory grows. No statement about a Go function.
-/
import Derived.Test.YtohdhndjbpfliaaRows
import Derived.WalkKit
import Derived.ProofKit
import Derived.OpenShut
import Derived.Lib.Hide
import Derived.Deep.Draws
import Derived.Deep.Slices
import Derived.Test.YtohdhndjbpfliaaAppImp
namespace Go.Proofs.Ytohdhndjbpfliaa
open Go.ChangeShapes Go.WideShapes Go.ChangeAt Go.RowKit

/-- The slice value '.slice a n c' holds the n numbers xs, all of them bits of floats, below block B. -/
def Floats (w : World) (B : Nat) (a : Option Addr) (n : Nat) (xs : List Nat) : Prop :=
  xs.length = n ∧ n ≤ 9223372036854775807 ∧ (∀ x ∈ xs, x < 18446744073709551616) ∧
    (0 < n → ∃ b o, a = some ⟨b, o, none⟩ ∧ b < B ∧ ∀ (k : Nat) (s : Nat), xs[k]? = some s → w.cell? ⟨b, o + k, none⟩ = some (.float .f64 s))

section
variable {w w' : World} {B B' n : Nat} {a : Option Addr} {xs : List Nat}
theorem Floats.len (h : Floats w B a n xs) : xs.length = n := h.1
theorem Floats.max (h : Floats w B a n xs) : n ≤ 9223372036854775807 := h.2.1
theorem Floats.fit (h : Floats w B a n xs) {k : Nat} {s : Nat} (hk : xs[k]? = some s) : s < 18446744073709551616 := h.2.2.1 s (List.mem_of_getElem? hk)
/-- Where the slice begins, if it has an element. -/
theorem Floats.head (h : Floats w B a n xs) (hn : 0 < n) : ∃ b o, a = some ⟨b, o, none⟩ ∧ b < B ∧ ∀ (k : Nat) (s : Nat), xs[k]? = some s → w.cell? ⟨b, o + k, none⟩ = some (.float .f64 s) := h.2.2.2 hn
theorem Floats.at_ (h : Floats w B a n xs) {k : Nat} (hk : k < n) : ∃ s, xs[k]? = some s ∧ s < 18446744073709551616 := by
  have hl : k < xs.length := by rw [h.1]; exact hk
  have hs : xs[k]? = some xs[k] := List.getElem?_eq_getElem hl
  exact ⟨_, hs, h.fit hs⟩
theorem Floats.keep (h : Floats w B a n xs) (hk : ∀ p : Addr, p.block < B → w'.cell? p = w.cell? p) : Floats w' B a n xs :=
  ⟨h.1, h.2.1, h.2.2.1, fun hn => by
    obtain ⟨b, o, e, hb, hc⟩ := h.2.2.2 hn
    exact ⟨b, o, e, hb, fun k s hs => (hk _ hb).trans (hc k s hs)⟩⟩
theorem Floats.more (h : Floats w B a n xs) (hB : B ≤ B') : Floats w B' a n xs :=
  ⟨h.1, h.2.1, h.2.2.1, fun hn => by
    obtain ⟨b, o, e, hb, hc⟩ := h.2.2.2 hn
    exact ⟨b, o, e, by omega, hc⟩⟩
theorem Floats.below (h : Floats w B a n xs) (hb : Below B w w') : Floats w' B a n xs := h.keep fun _ hp => hb.cell hp
theorem Floats.on (h : Floats w w.heap.size a n xs) (hb : Below w.heap.size w w') : Floats w' w'.heap.size a n xs := (h.below hb).more hb.size
theorem Floats.drewN (h : Floats w B a n xs) (k : Nat) : Floats (w.drewN k) B a n xs := h
theorem Floats.drew (h : Floats w B a n xs) : Floats w.drew B a n xs := h
theorem Floats.alloc (h : Floats w B a n xs) (hB : B ≤ w.heap.size) (o : Obj) : Floats (w.alloc o) B a n xs := h.keep fun p hp => World.cell?_alloc_lt w o p (by omega)
end

theorem Floats.drop {w : World} {B n b o : Nat} {xs : List Nat} (h : Floats w B (some ⟨b, o, none⟩) n xs) (k : Nat) : Floats w B (some ⟨b, o + k, none⟩) (n - k) (xs.drop k) := by
  have hl := h.len
  refine ⟨by simp [hl], by have := h.max; omega, fun x hx => h.2.2.1 x (List.mem_of_mem_drop hx), fun hn => ?_⟩
  obtain ⟨b', o', e, hb, hc⟩ := h.head (by omega)
  injection e with e
  injection e with e1 e2
  subst e1 e2
  refine ⟨b, o + k, rfl, hb, fun j s hs => ?_⟩
  have := hc (k + j) s (by rw [← List.getElem?_drop]; exact hs)
  rw [Nat.add_assoc]; exact this
theorem Floats.none_left {w : World} {B n : Nat} {a : Option Addr} {xs : List Nat} (h : Floats w B a n xs) {k : Nat} (hn : n ≤ k) (a' : Option Addr) : Floats w B a' (n - k) (xs.drop k) := by
  have hl := h.len
  exact ⟨by simp [hl], by have := h.max; omega, fun x hx => h.2.2.1 x (List.mem_of_mem_drop hx), fun hp => absurd hp (by omega)⟩
theorem Floats.setCell {w : World} {B n : Nat} {a : Option Addr} {xs : List Nat} (h : Floats w B a n xs) {p : Addr} (hp : B ≤ p.block) (u : Value) : Floats (w.setCell p u) B a n xs :=
  h.keep fun q hq => World.cell?_setCell_other w p q u (fun e => by subst e; omega)
theorem fnewsOf {w : World} {B n b o : Nat} {xs : List Nat} (h : Floats w B (some ⟨b, o, none⟩) n xs) : ∀ (j : Nat) (u : Value), (xs.map (Value.float .f64))[j]? = some u → w.cell? ((⟨b, o, none⟩ : Addr).add j) = some u := by
  intro j u hu
  rw [List.getElem?_map] at hu
  cases hx : xs[j]? with
  | none => rw [hx] at hu; simp at hu
  | some x =>
    rw [hx] at hu
    simp at hu
    subst hu
    have hj := (List.getElem?_eq_some_iff.1 hx).1
    obtain ⟨b', o', e, _, hc⟩ := h.head (by have := h.len; omega)
    injection e with e
    injection e with e1 e2
    subst e1 e2
    have := hc j x hx
    by_cases h0 : j = 0
    · subst h0; simpa [Addr.add] using this
    · simpa [Addr.add, h0] using this
theorem fnewsOne {w : World} {g : Nat} {x : Value} (h : w.cell? ⟨g, 0, none⟩ = some x) : ∀ (j : Nat) (u : Value), [x][j]? = some u → w.cell? ((⟨g, 0, none⟩ : Addr).add j) = some u := by
  intro j u hu
  match j, hu with
  | 0, hu => simp at hu; subst hu; simpa [Addr.add] using h
theorem floats_of_own {w : World} {base g cap : Nat} {e : TypeId} {n : Nat} {ts : List Nat} (h : w.ownsRow base e 1 (.slice (some ⟨g, 0, none⟩) n cap) n (ts.map (Value.float .f64))) (hn : 0 < n) (hm : n ≤ 9223372036854775807)
    (hf : ∀ x ∈ ts, x < 18446744073709551616) : Floats w w.heap.size (some ⟨g, 0, none⟩) n ts := by
  obtain ⟨g', cap', hv, hb, hg⟩ := h.form hn
  injection hv with hv
  injection hv with hv
  injection hv with hv
  subst hv
  have hlen : ts.length = n := by have := h.1; simpa using this
  refine ⟨hlen, hm, hf, fun _ => ⟨g, 0, rfl, hg, fun k s hs => ?_⟩⟩
  obtain ⟨hk, _⟩ := List.getElem?_eq_some_iff.1 hs
  have := h.cellAt k (by omega)
  rw [List.getElem?_map, hs] at this
  simpa using this

theorem wf_f64 {x : Nat} (h : (Lit.float .f64 x).wf = true) : x < 18446744073709551616 := by simpa [Lit.wf] using h
theorem float_field {H : Type} {enc : TypeId × Value → H} {P : Program} {w : World} {base : Nat} {spare : Nat → Bool} {held : Bool} {t : TypeId} {n : Nat} {u : Value} {y : DataW H × List MemPlace} (ht : P.underlying t = some (.float .f64)) (h : DataW.trod enc P w base spare held n t [u] = some y) :
    ∃ x : Nat, u = .float .f64 x ∧ x < 18446744073709551616 := by
  cases n with
  | zero => simp [DataW.trod] at h
  | succ n =>
    simp only [DataW.trod, ht] at h
    cases u with
    | float k x =>
      cases k with
      | f32 => simp at h
      | f64 =>
        by_cases hw : (Lit.float .f64 x).wf = true
        · exact ⟨x, rfl, wf_f64 hw⟩
        · simp [hw] at h
    | _ => simp at h
/-- A slice of floats that came in as an argument. -/
theorem floats_field {H : Type} {enc : TypeId × Value → H} {w : World} {n : Nat} {u : Value} {y : DataW H × List MemPlace} (h : DataW.trod enc Try.prog w 0 (fun _ => true) true n 29 [u] = some y) :
    ∃ (a : Option Addr) (len cap : Nat) (xs : List Nat), u = .slice a len cap ∧ len ≤ cap ∧ Floats w w.heap.size a len xs := by
  rcases Deep.open_slice1 Try.underlying29 (by kernel_rfl) h with ⟨hcs, _⟩ | ⟨⟨b, o, sp⟩, l, c, m, f, V, D, Pl, hcs, _, hl, hm, hmm, _, hV⟩
  · simp at hcs
    exact ⟨_, _, _, [], hcs, Nat.le_refl _, rfl, by omega, by simp, fun h => absurd h (by omega)⟩
  · simp at hcs hmm
    obtain ⟨X, hX⟩ := Deep.choose_lt (α := Nat) (n := m) (p := fun i x => w.cell? ((⟨b, o, sp⟩ : Addr).add i) = some (.float .f64 x) ∧ x < 18446744073709551616) (fun i hi => by
      obtain ⟨h1, h2⟩ := hV i hi
      obtain ⟨x, e, hx⟩ := float_field Try.underlying23 h2
      exact ⟨x, by rw [← e]; exact h1, hx⟩)
    refine ⟨_, _, _, (List.range l).map X, hcs, hl, by simp, by unfold maxLen at hm; omega, fun x hx => ?_, fun hn => ?_⟩
    · obtain ⟨i, hi, rfl⟩ := List.mem_map.1 hx
      exact (hX i (by have := List.mem_range.1 hi; omega)).2
    · have h0 := (hX 0 (by omega)).1
      have hsp : sp = none := by simpa [Addr.add] using World.cell?_spot h0
      subst hsp
      refine ⟨b, o, rfl, ?_, fun k s hs => ?_⟩
      · have h1 : w.cell? ⟨b, o, none⟩ = some (.float .f64 (X 0)) := by simpa [Addr.add] using h0
        rcases Nat.lt_or_ge b w.heap.size with g | g
        · exact g
        · simp [World.cell?, Array.getElem?_eq_none g] at h1
      · rw [List.getElem?_map] at hs
        cases hr : (List.range l)[k]? with
        | none => rw [hr] at hs; simp at hs
        | some i =>
          obtain ⟨hk, e⟩ := List.getElem?_eq_some_iff.1 hr
          simp at e hk
          subst e
          rw [hr] at hs
          simp at hs
          subst hs
          have h2 := (hX k (by omega)).1
          by_cases hk0 : k = 0
          · subst hk0; simpa [Addr.add] using h2
          · simpa [Addr.add, hk0] using h2
end Go.Proofs.Ytohdhndjbpfliaa
