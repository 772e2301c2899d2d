/-
  More of slices of ints: cut at the front, kept behind a store, as what an append takes, and out of an own row. No statement about a Go function.
-/
import Derived.Test.YtkcdehnpkephgaaInts
import Derived.Test.YtkcdehnpkephgaaAppImp
import Derived.Test.YtkcdehnpkephgaaAppRun
namespace Go.Proofs.Ytkcdehnpkephgaa
open Go.ChangeShapes Go.WideShapes Go.ChangeAt Go.RowKit

theorem Ints.tail {w : World} {B n b o : Nat} {xs : List Int} (h : Ints w B (some ⟨b, o, none⟩) n xs) : Ints w B (some ⟨b, o + 1, none⟩) (n - 1) (xs.drop 1) := by
  have hl := h.len
  refine ⟨by simp [hl], by have := h.max; omega, fun x hx => h.2.2.1 x (List.mem_of_mem_drop hx), fun hn => ?_⟩
  obtain ⟨b', o', e, hb, hc⟩ := h.head (by omega)
  injection e with e
  injection e with e1 e2
  subst e1 e2
  refine ⟨b, o + 1, rfl, hb, fun k s hs => ?_⟩
  have := hc (1 + k) s (by rw [← List.getElem?_drop]; exact hs)
  rw [show o + 1 + k = o + (1 + k) by omega]; exact this
theorem Ints.last {w : World} {B n : Nat} {a : Option Addr} {xs : List Int} (h : Ints w B a n xs) (hn : n ≤ 1) (a' : Option Addr) : Ints w B a' (n - 1) (xs.drop 1) := by
  have hl := h.len
  exact ⟨by simp [hl], by have := h.max; omega, fun x hx => h.2.2.1 x (List.mem_of_mem_drop hx), fun hp => absurd hp (by omega)⟩
theorem Ints.setCell {w : World} {B n : Nat} {a : Option Addr} {xs : List Int} (h : Ints w B a n xs) {p : Addr} (hp : B ≤ p.block) (u : Value) : Ints (w.setCell p u) B a n xs :=
  h.keep fun q hq => World.cell?_setCell_other w p q u (fun e => by subst e; omega)
theorem newsOf {w : World} {B n b o : Nat} {xs : List Int} (h : Ints w B (some ⟨b, o, none⟩) n xs) : ∀ (j : Nat) (u : Value), (xs.map (Value.int .i64))[j]? = some u → w.cell? ((⟨b, o, none⟩ : Addr).add j) = some u := by
  intro j u hu
  rw [List.getElem?_map] at hu
  cases hx : xs[j]? with
  | none => rw [hx] at hu; simp at hu
  | some x =>
    rw [hx] at hu
    simp at hu
    subst hu
    have hj := (List.getElem?_eq_some_iff.1 hx).1
    obtain ⟨b', o', e, _, hc⟩ := h.head (by have := h.len; omega)
    injection e with e
    injection e with e1 e2
    subst e1 e2
    have := hc j x hx
    by_cases h0 : j = 0
    · subst h0; simpa [Addr.add] using this
    · simpa [Addr.add, h0] using this
theorem ints_of_own {w : World} {base g cap : Nat} {e : TypeId} {n : Nat} {ts : List Int} (h : w.ownsRow base e 1 (.slice (some ⟨g, 0, none⟩) n cap) n (ts.map (Value.int .i64))) (hn : 0 < n) (hm : n ≤ 9223372036854775807)
    (hf : ∀ x ∈ ts, -9223372036854775808 ≤ x ∧ x ≤ 9223372036854775807) : Ints w w.heap.size (some ⟨g, 0, none⟩) n ts := by
  obtain ⟨g', cap', hv, hb, hg⟩ := h.form hn
  injection hv with hv
  injection hv with hv
  injection hv with hv
  subst hv
  have hlen : ts.length = n := by have := h.1; simpa using this
  refine ⟨hlen, hm, hf, fun _ => ⟨g, 0, rfl, hg, fun k s hs => ?_⟩⟩
  obtain ⟨hk, _⟩ := List.getElem?_eq_some_iff.1 hs
  have := h.cellAt k (by omega)
  rw [List.getElem?_map, hs] at this
  simpa using this
end Go.Proofs.Ytkcdehnpkephgaa
