/-
  A slice of structs of one-cell fields that came in, whatever the struct: its elements as plain records. No statement about a Go function.
-/
import Derived.Test.YtjnnblcafocdoaaDoorFieldsOpen
import Derived.Test.YtjnnblcafocdoaaDoorBut
import Derived.Lib.Hide
namespace Go.Proofs.YtjnnblcafocdoaaDoor
open Go.ChangeShapes Go.WideShapes Go.ChangeAt Go.RowKit Go.Deep
set_option maxRecDepth 100000

/-- The slice value '.slice a n c' holds the n records us, of k cells each, below block B. -/
structure Recs {α : Type} (cells : α → List Value) (ok : α → World → Nat → Prop) (k : Nat) (w : World) (B : Nat) (a : Option Addr) (n : Nat) (us : List α) : Prop where
  len : us.length = n
  max : n ≤ 9223372036854775807
  ok : ∀ (i : Nat) (u : α), us[i]? = some u → ok u w B
  head : 0 < n → ∃ b o, a = some ⟨b, o, none⟩ ∧ b < B ∧ ∀ (i : Nat) (u : α), us[i]? = some u → ∀ (j : Nat) (v : Value), (cells u)[j]? = some v → w.cell? ⟨b, o + i * k + j, none⟩ = some v
section
variable {α : Type} {cells : α → List Value} {ok : α → World → Nat → Prop} {k n B : Nat} {w w' : World} {a : Option Addr} {us : List α}
theorem Recs.below (h : Recs cells ok k w B a n us) (hok : ∀ u, ok u w B → ok u w' B) (hb : Below B w w') : Recs cells ok k w' B a n us :=
  ⟨h.len, h.max, fun i u hu => hok u (h.ok i u hu), fun hn => by
    obtain ⟨b, o, e, hB, hc⟩ := h.head hn
    exact ⟨b, o, e, hB, fun i u hu j v hv => (hb.cell (p := ⟨b, o + i * k + j, none⟩) hB).trans (hc i u hu j v hv)⟩⟩
theorem Recs.at_ (h : Recs cells ok k w B a n us) {i : Nat} (hi : i < n) : ∃ u, us[i]? = some u ∧ ok u w B := by
  have hl : i < us.length := by rw [h.len]; exact hi
  exact ⟨us[i], List.getElem?_eq_getElem hl, h.ok i _ (List.getElem?_eq_getElem hl)⟩
end

theorem wf_int {x : Int} (h : (Lit.int .i64 x).wf = true) : -9223372036854775808 ≤ x ∧ x ≤ 9223372036854775807 := by
  simpa [Lit.wf, IntKind.min, IntKind.max, IntKind.signed, IntKind.bits] using h
section
variable {H : Type} {enc : TypeId × Value → H} {w : World}
theorem i64_field {n : Nat} {u : Value} {y : DataW H × List MemPlace} (h : DataW.trod enc Tryd.prog w 0 (fun _ => true) true n 3 [u] = some y) : ∃ a : Int, u = .int .i64 a ∧ -9223372036854775808 ≤ a ∧ a ≤ 9223372036854775807 := by
  obtain ⟨a, e, _, hw⟩ := DataW.trod_int Tryd.underlying3 h
  simp at e
  exact ⟨a, e, wf_int hw⟩
theorem bool_field {n : Nat} {u : Value} {y : DataW H × List MemPlace} (h : DataW.trod enc Tryd.prog w 0 (fun _ => true) true n 4 [u] = some y) : ∃ a : Bool, u = .bool a := by
  obtain ⟨a, e, _⟩ := DataW.trod_bool Tryd.underlying4 h
  simp at e
  exact ⟨a, e⟩

theorem recs_field {α : Type} [Inhabited α] {cells : α → List Value} {ok : α → World → Nat → Prop} {k : Nat} {T S : TypeId} (hS : Tryd.prog.underlying S = some (.slice T)) (hk : Tryd.prog.cellsOf T = k) (hk0 : 0 < k) (hlen : ∀ u, (cells u).length = k)
    (hT : ∀ (cs : List Value) (fuel : Nat) (x : DataW H × List MemPlace), DataW.trod enc Tryd.prog w 0 (fun _ => true) true fuel T cs = some x → ∃ u, cs = cells u ∧ ok u w w.heap.size)
    {n : Nat} {u : Value} {y : DataW H × List MemPlace} (h : DataW.trod enc Tryd.prog w 0 (fun _ => true) true n S [u] = some y) : ∃ (a : Option Addr) (len cap : Nat) (us : List α), u = .slice a len cap ∧ len ≤ cap ∧ Recs cells ok k w w.heap.size a len us := by
  rcases open_slice hS h with ⟨hcs, _⟩ | ⟨x, l, c, m, k', D, Pl, hcs, _, hl, hm, hmm, _, hel⟩
  · simp at hcs
    exact ⟨_, _, _, [], hcs, by omega, ⟨rfl, by omega, fun k u hu => by simp at hu, fun h => absurd h (by omega)⟩⟩
  · simp at hcs
    have hml : l ≤ m := by rw [hmm]; simp; exact hl
    rw [hk] at hel
    obtain ⟨f, hf⟩ := choose_lt (α := α) (n := l) (p := fun i u => ok u w w.heap.size ∧ ∀ (j : Nat) (v : Value), (cells u)[j]? = some v → w.cell? ((x.add (i * k)).add j) = some v) (fun i hi => by
      obtain ⟨cs', hc, ht⟩ := hel i (by omega)
      obtain ⟨u, rfl, hu⟩ := hT _ _ _ ht
      obtain ⟨_, _, hcell⟩ := World.cells?_some hc
      refine ⟨u, hu, fun j v hj => ?_⟩
      have hjl : j < k := by have := (List.getElem?_eq_some_iff.1 hj).1; rw [hlen] at this; exact this
      rw [hcell j hjl, hj])
    have hget : ∀ (i : Nat) (u : α), ((List.range l).map f)[i]? = some u → i < l ∧ u = f i := fun i u hu => by
      rw [List.getElem?_map] at hu
      by_cases hi : i < l
      · rw [List.getElem?_range hi] at hu
        simp at hu
        exact ⟨hi, hu.symm⟩
      · rw [List.getElem?_eq_none (by simpa using hi)] at hu
        simp at hu
    unfold maxLen at hm
    refine ⟨_, _, _, (List.range l).map f, hcs, hl, ⟨by simp, by omega, fun k u hu => ?_, fun h0 => ?_⟩⟩
    · obtain ⟨hk, rfl⟩ := hget k u hu
      exact (hf k hk).1
    · have h1 := (hf 0 h0).2 0 _ (List.getElem?_eq_getElem (by rw [hlen]; exact hk0))
      obtain ⟨b, o, sp⟩ := x
      have hsp : sp = none := by simpa [Addr.add] using World.cell?_spot h1
      subst hsp
      have h2 := h1
      simp [Addr.add] at h2
      refine ⟨b, o, rfl, lt_of_cell h2, fun i u hu j v hv => ?_⟩
      obtain ⟨hi, rfl⟩ := hget i u hu
      have h3 := (hf i hi).2 j v hv
      rw [Deep.add_add] at h3
      have e : (⟨b, o, none⟩ : Addr).add (i * k + j) = ⟨b, o + i * k + j, none⟩ := by
        unfold Addr.add
        by_cases q : i * k + j = 0
        · rw [if_pos q]; congr 1; omega
        · rw [if_neg q]; congr 1; show o + (i * k + j) = _; omega
      rw [e] at h3
      exact h3
end
end Go.Proofs.YtjnnblcafocdoaaDoor
