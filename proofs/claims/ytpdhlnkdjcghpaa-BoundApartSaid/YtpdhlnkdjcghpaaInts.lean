/-
  A slice of ints that reads as a list of numbers, nil let in, in a word of its own; and how it is kept while memory grows. No statement about a Go function.
-/
import Derived.Test.YtpdhlnkdjcghpaaRows
import Derived.WalkKit
import Derived.ProofKit
import Derived.OpenShut
import Derived.Lib.Hide
import Derived.Deep.Draws
namespace Go.Proofs.Ytpdhlnkdjcghpaa
open Go.ChangeShapes Go.WideShapes Go.ChangeAt Go.RowKit

/-- The slice value '.slice a n c' holds the n numbers xs, all of them ints of 64 bits, below block B. -/
def Ints (w : World) (B : Nat) (a : Option Addr) (n : Nat) (xs : List Int) : Prop :=
  xs.length = n ∧ n ≤ 9223372036854775807 ∧ (∀ x ∈ xs, -9223372036854775808 ≤ x ∧ x ≤ 9223372036854775807) ∧
    (0 < n → ∃ b o, a = some ⟨b, o, none⟩ ∧ b < B ∧ ∀ (k : Nat) (s : Int), xs[k]? = some s → w.cell? ⟨b, o + k, none⟩ = some (.int .i64 s))

section
variable {w w' : World} {B B' n : Nat} {a : Option Addr} {xs : List Int}
theorem Ints.len (h : Ints w B a n xs) : xs.length = n := h.1
theorem Ints.max (h : Ints w B a n xs) : n ≤ 9223372036854775807 := h.2.1
theorem Ints.fit (h : Ints w B a n xs) {k : Nat} {s : Int} (hk : xs[k]? = some s) : -9223372036854775808 ≤ s ∧ s ≤ 9223372036854775807 := h.2.2.1 s (List.mem_of_getElem? hk)
/-- Where the slice begins, if it has an element. -/
theorem Ints.head (h : Ints w B a n xs) (hn : 0 < n) : ∃ b o, a = some ⟨b, o, none⟩ ∧ b < B ∧ ∀ (k : Nat) (s : Int), xs[k]? = some s → w.cell? ⟨b, o + k, none⟩ = some (.int .i64 s) := h.2.2.2 hn
theorem Ints.at_ (h : Ints w B a n xs) {k : Nat} (hk : k < n) : ∃ s, xs[k]? = some s ∧ -9223372036854775808 ≤ s ∧ s ≤ 9223372036854775807 := by
  have hl : k < xs.length := by rw [h.1]; exact hk
  have hs : xs[k]? = some xs[k] := List.getElem?_eq_getElem hl
  exact ⟨_, hs, h.fit hs⟩
theorem Ints.keep (h : Ints w B a n xs) (hk : ∀ p : Addr, p.block < B → w'.cell? p = w.cell? p) : Ints w' B a n xs :=
  ⟨h.1, h.2.1, h.2.2.1, fun hn => by
    obtain ⟨b, o, e, hb, hc⟩ := h.2.2.2 hn
    exact ⟨b, o, e, hb, fun k s hs => (hk _ hb).trans (hc k s hs)⟩⟩
theorem Ints.more (h : Ints w B a n xs) (hB : B ≤ B') : Ints w B' a n xs :=
  ⟨h.1, h.2.1, h.2.2.1, fun hn => by
    obtain ⟨b, o, e, hb, hc⟩ := h.2.2.2 hn
    exact ⟨b, o, e, by omega, hc⟩⟩
theorem Ints.below (h : Ints w B a n xs) (hb : Below B w w') : Ints w' B a n xs := h.keep fun _ hp => hb.cell hp
theorem Ints.on (h : Ints w w.heap.size a n xs) (hb : Below w.heap.size w w') : Ints w' w'.heap.size a n xs := (h.below hb).more hb.size
theorem Ints.drewN (h : Ints w B a n xs) (k : Nat) : Ints (w.drewN k) B a n xs := h
theorem Ints.drew (h : Ints w B a n xs) : Ints w.drew B a n xs := h
theorem Ints.alloc (h : Ints w B a n xs) (hB : B ≤ w.heap.size) (o : Obj) : Ints (w.alloc o) B a n xs := h.keep fun p hp => World.cell?_alloc_lt w o p (by omega)
end

theorem wf_i64 {x : Int} (h : (Lit.int .i64 x).wf = true) : -9223372036854775808 ≤ x ∧ x ≤ 9223372036854775807 := by
  simpa [Lit.wf, IntKind.min, IntKind.max, IntKind.signed, IntKind.bits] using h

/-- What the frame of a law is told of a slice of ints, in this text's word: the elements alone. -/
theorem Ints.of_row {w : World} {a : Option Addr} {len cap : Nat} {zs : List Int}
    (h : (a = none ∧ len = 0 ∧ cap = 0 ∧ zs = []) ∨
      ∃ x, a = some x ∧ len ≤ cap ∧ cap ≤ maxLen ∧ zs.length = cap ∧ (∀ i, i < zs.length → w.cell? (x.add i) = some (.int .i64 (zs.getD i 0))) ∧ ∀ n ∈ zs, (Lit.int .i64 n).wf = true) :
    Ints w w.heap.size a len (zs.take len) := by
  rcases h with ⟨rfl, rfl, rfl, rfl⟩ | ⟨⟨b, o, sp⟩, rfl, hl, hm, hz, hc, hw⟩
  · exact ⟨rfl, by omega, by simp, fun h => absurd h (by omega)⟩
  · unfold maxLen at hm
    refine ⟨by rw [List.length_take]; omega, by omega, fun x hx => wf_i64 (hw x (List.mem_of_mem_take hx)), fun hn => ?_⟩
    have h0 := hc 0 (by omega)
    have hsp : sp = none := by simpa [Addr.add] using World.cell?_spot h0
    subst hsp
    refine ⟨b, o, rfl, ?_, fun k s hs => ?_⟩
    · have h1 : w.cell? ⟨b, o, none⟩ = some (.int .i64 (zs.getD 0 0)) := by simpa [Addr.add] using h0
      rcases Nat.lt_or_ge b w.heap.size with g | g
      · exact g
      · simp [World.cell?, Array.getElem?_eq_none g] at h1
    · rw [List.getElem?_take] at hs
      split at hs
      · obtain ⟨hk, e⟩ := List.getElem?_eq_some_iff.1 hs
        have h2 := hc k hk
        have e2 : zs.getD k 0 = s := by rw [List.getD_eq_getElem?_getD, hs]; rfl
        rw [e2] at h2
        by_cases hk0 : k = 0
        · subst hk0; simpa [Addr.add] using h2
        · simpa [Addr.add, hk0] using h2
      · cases hs
end Go.Proofs.Ytpdhlnkdjcghpaa
