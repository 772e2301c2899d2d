/-
  Arguments opened: a slice of bytes, an array of two bytes, a use of an arena by value, a slice of uses. No statement about a Go function.
-/
import Derived.Test.YtnopeifgcpibaaaFieldsOpen
import Derived.Test.YtnopeifgcpibaaaBytes
namespace Go.Proofs.Ytnopeifgcpibaaa
open Go.ChangeShapes Go.WideShapes Go.ChangeAt Go.RowKit Go.Deep

theorem wf_u8 {x : Int} (h : (Lit.int .u8 x).wf = true) : 0 ≤ x ∧ x ≤ 255 := by
  simpa [Lit.wf, IntKind.min, IntKind.max, IntKind.signed, IntKind.bits] using h
theorem wf_u64 {x : Int} (h : (Lit.int .u64 x).wf = true) : 0 ≤ x ∧ x ≤ 18446744073709551615 := by
  simpa [Lit.wf, IntKind.min, IntKind.max, IntKind.signed, IntKind.bits] using h
theorem wf_int {x : Int} (h : (Lit.int .i64 x).wf = true) : -9223372036854775808 ≤ x ∧ x ≤ 9223372036854775807 := by
  simpa [Lit.wf, IntKind.min, IntKind.max, IntKind.signed, IntKind.bits] using h

theorem Bytes.of_row {w : World} {a : Option Addr} {len cap : Nat} {zs : List Int}
    (h : (a = none ∧ len = 0 ∧ cap = 0 ∧ zs = []) ∨
      ∃ x, a = some x ∧ len ≤ cap ∧ cap ≤ maxLen ∧ zs.length = cap ∧ (∀ i, i < zs.length → w.cell? (x.add i) = some (.int .u8 (zs.getD i 0))) ∧ ∀ n ∈ zs, (Lit.int .u8 n).wf = true) :
    Bytes w w.heap.size a len (zs.take len) := by
  rcases h with ⟨rfl, rfl, rfl, rfl⟩ | ⟨⟨b, o, sp⟩, rfl, hl, hm, hz, hc, hw⟩
  · exact Bytes.zero _ _ _
  · unfold maxLen at hm
    refine ⟨by rw [List.length_take]; omega, by omega, fun x hx => wf_u8 (hw x (List.mem_of_mem_take hx)), fun hn => ?_⟩
    have h0 := hc 0 (by omega)
    have hsp : sp = none := by simpa [Addr.add] using World.cell?_spot h0
    subst hsp
    refine ⟨b, o, rfl, ?_, fun k s hs => ?_⟩
    · have h1 : w.cell? ⟨b, o, none⟩ = some (.int .u8 (zs.getD 0 0)) := by simpa [Addr.add] using h0
      exact lt_of_cell h1
    · rw [List.getElem?_take] at hs
      split at hs
      · obtain ⟨hk, e⟩ := List.getElem?_eq_some_iff.1 hs
        have h2 := hc k hk
        have e2 : zs.getD k 0 = s := by rw [List.getD_eq_getElem?_getD, hs]; rfl
        rw [e2] at h2
        by_cases hk0 : k = 0
        · subst hk0; simpa [Addr.add] using h2
        · simpa [Addr.add, hk0] using h2
      · cases hs

/-- A use of an arena, as plain numbers. -/
structure Us where
  kind : Int
  at_ : Int
  from_ : Int
  n : Int
  v : Int
  ba : Option Addr
  bn : Nat
  bc : Nat
  bs : List Int
instance : Inhabited Us := ⟨⟨0, 0, 0, 0, 0, none, 0, 0, []⟩⟩
def Us.cells (u : Us) : List Value := [.int .u8 u.kind, .int .i64 u.at_, .int .i64 u.from_, .int .i64 u.n, .int .u64 u.v, .slice u.ba u.bn u.bc]
structure Us.Ok (u : Us) (w : World) (B : Nat) : Prop where
  kind : 0 ≤ u.kind ∧ u.kind ≤ 255
  at_ : -9223372036854775808 ≤ u.at_ ∧ u.at_ ≤ 9223372036854775807
  from_ : -9223372036854775808 ≤ u.from_ ∧ u.from_ ≤ 9223372036854775807
  n : -9223372036854775808 ≤ u.n ∧ u.n ≤ 9223372036854775807
  v : 0 ≤ u.v ∧ u.v ≤ 18446744073709551615
  bytes : Bytes w B u.ba u.bn u.bs
  cap : u.bn ≤ u.bc
theorem Us.Ok.below {u : Us} {w w' : World} {B : Nat} (h : u.Ok w B) (hb : Below B w w') : u.Ok w' B := ⟨h.kind, h.at_, h.from_, h.n, h.v, h.bytes.below hb, h.cap⟩
theorem Us.Ok.more {u : Us} {w : World} {B B' : Nat} (h : u.Ok w B) (hB : B ≤ B') : u.Ok w B' := ⟨h.kind, h.at_, h.from_, h.n, h.v, h.bytes.more hB, h.cap⟩

/-- The slice value '.slice a n c' holds the n uses us, below block B. -/
structure Uses (w : World) (B : Nat) (a : Option Addr) (n : Nat) (us : List Us) : Prop where
  len : us.length = n
  max : n ≤ 9223372036854775807
  ok : ∀ (k : Nat) (u : Us), us[k]? = some u → u.Ok w B
  head : 0 < n → ∃ b o, a = some ⟨b, o, none⟩ ∧ b < B ∧ ∀ (k : Nat) (u : Us), us[k]? = some u → ∀ (j : Nat) (v : Value), u.cells[j]? = some v → w.cell? ⟨b, o + k * 6 + j, none⟩ = some v
theorem Uses.below {w w' : World} {B n : Nat} {a : Option Addr} {us : List Us} (h : Uses w B a n us) (hb : Below B w w') : Uses w' B a n us :=
  ⟨h.len, h.max, fun k u hu => (h.ok k u hu).below hb, fun hn => by
    obtain ⟨b, o, e, hB, hc⟩ := h.head hn
    exact ⟨b, o, e, hB, fun k u hu j v hv => (hb.cell (p := ⟨b, o + k * 6 + j, none⟩) hB).trans (hc k u hu j v hv)⟩⟩

section
variable {H : Type} {enc : TypeId × Value → H} {w : World}
theorem bytes_field {n : Nat} {u : Value} {y : DataW H × List MemPlace} (h : DataW.trod enc Try.prog w 0 (fun _ => true) true n 31 [u] = some y) : ∃ (a : Option Addr) (len cap : Nat) (xs : List Int), u = .slice a len cap ∧ len ≤ cap ∧ Bytes w w.heap.size a len xs := by
  rcases open_ints Try.underlying31 Try.underlying5 (by kernel_rfl) h with ⟨hcs, _⟩ | ⟨x, l, c, zs, hcs, _, hl, hm, hz, _, hcell, hwz⟩
  · simp at hcs
    exact ⟨_, _, _, _, hcs, by omega, Bytes.of_row (zs := []) (cap := 0) (.inl ⟨rfl, rfl, rfl, rfl⟩)⟩
  · simp at hcs
    exact ⟨_, _, _, _, hcs, hl, Bytes.of_row (zs := zs) (cap := c) (.inr ⟨x, rfl, hl, hm, by simpa using hz, hcell, hwz⟩)⟩
theorem u8_field {n : Nat} {u : Value} {y : DataW H × List MemPlace} (h : DataW.trod enc Try.prog w 0 (fun _ => true) true n 5 [u] = some y) : ∃ a : Int, u = .int .u8 a ∧ 0 ≤ a ∧ a ≤ 255 := by
  obtain ⟨a, e, _, hw⟩ := DataW.trod_int Try.underlying5 h
  simp at e
  exact ⟨a, e, wf_u8 hw⟩
theorem u64_field {n : Nat} {u : Value} {y : DataW H × List MemPlace} (h : DataW.trod enc Try.prog w 0 (fun _ => true) true n 36 [u] = some y) : ∃ a : Int, u = .int .u64 a ∧ 0 ≤ a ∧ a ≤ 18446744073709551615 := by
  obtain ⟨a, e, _, hw⟩ := DataW.trod_int Try.underlying36 h
  simp at e
  exact ⟨a, e, wf_u64 hw⟩
theorem i64_field {n : Nat} {u : Value} {y : DataW H × List MemPlace} (h : DataW.trod enc Try.prog w 0 (fun _ => true) true n 3 [u] = some y) : ∃ a : Int, u = .int .i64 a ∧ -9223372036854775808 ≤ a ∧ a ≤ 9223372036854775807 := by
  obtain ⟨a, e, _, hw⟩ := DataW.trod_int Try.underlying3 h
  simp at e
  exact ⟨a, e, wf_int hw⟩

theorem use_cells {cs : List Value} {fuel : Nat} {x : DataW H × List MemPlace} (h : DataW.trod enc Try.prog w 0 (fun _ => true) true fuel 40 cs = some x) : ∃ u : Us, cs = u.cells ∧ u.Ok w w.heap.size := by
  obtain ⟨hl, hf⟩ := fields_of Try.underlying40 (by kernel_rfl) (by kernel_rfl) h
  match cs, hl with
  | [v0, v1, v2, v3, v4, v5], _ =>
    obtain ⟨u0, _, n0, e0, t0⟩ := hf 0 _ rfl
    obtain ⟨u1, _, n1, e1, t1⟩ := hf 1 _ rfl
    obtain ⟨u2, _, n2, e2, t2⟩ := hf 2 _ rfl
    obtain ⟨u3, _, n3, e3, t3⟩ := hf 3 _ rfl
    obtain ⟨u4, _, n4, e4, t4⟩ := hf 4 _ rfl
    obtain ⟨u5, _, n5, e5, t5⟩ := hf 5 _ rfl
    simp at e0 e1 e2 e3 e4 e5
    subst e0 e1 e2 e3 e4 e5
    obtain ⟨a0, rfl, f0⟩ := u8_field t0
    obtain ⟨a1, rfl, f1⟩ := i64_field t1
    obtain ⟨a2, rfl, f2⟩ := i64_field t2
    obtain ⟨a3, rfl, f3⟩ := i64_field t3
    obtain ⟨a4, rfl, f4⟩ := u64_field t4
    obtain ⟨ba, bn, bc, bs, rfl, hc, f5⟩ := bytes_field t5
    exact ⟨⟨a0, a1, a2, a3, a4, ba, bn, bc, bs⟩, rfl, f0, f1, f2, f3, f4, f5, hc⟩
/-- A use that came in. -/
theorem open_use {r : Reach} {b0 : Nat} {v : Value} {d : DataW H} {p : List MemPlace} (hv : Value.okWide Try.prog w r b0 40 v) (h : DataW.Trod enc Try.prog w 0 (fun _ => true) true 40 v d p) :
    ∃ u : Us, v = .agg #[.int .u8 u.kind, .int .i64 u.at_, .int .i64 u.from_, .int .i64 u.n, .int .u64 u.v, .slice u.ba u.bn u.bc] ∧ u.Ok w w.heap.size := by
  obtain ⟨cs, rfl, _, fuel, hf⟩ := fields_in Try.underlying40 (by kernel_rfl) (by kernel_rfl) hv h
  obtain ⟨u, e, hu⟩ := use_cells hf
  refine ⟨u, ?_, hu⟩
  obtain ⟨l⟩ := cs
  simp at e
  subst e
  rfl
/-- Two bytes that came in. -/
theorem open_two {r : Reach} {b0 : Nat} {v : Value} {d : DataW H} {p : List MemPlace} (hv : Value.okWide Try.prog w r b0 50 v) (h : DataW.Trod enc Try.prog w 0 (fun _ => true) true 50 v d p) :
    ∃ x y : Int, v = .agg #[.int .u8 x, .int .u8 y] ∧ (0 ≤ x ∧ x ≤ 255) ∧ 0 ≤ y ∧ y ≤ 255 := by
  obtain ⟨cs, rfl, hl, hf⟩ := array_in Try.underlying50 (by kernel_rfl) (by kernel_rfl) hv h
  obtain ⟨l⟩ := cs
  match l, hl with
  | [v0, v1], _ =>
    obtain ⟨u0, _, n0, e0, t0⟩ := hf 0 (by omega)
    obtain ⟨u1, _, n1, e1, t1⟩ := hf 1 (by omega)
    simp at e0 e1
    subst e0 e1
    obtain ⟨a0, rfl, f0⟩ := u8_field t0
    obtain ⟨a1, rfl, f1⟩ := u8_field t1
    exact ⟨a0, a1, rfl, f0, f1⟩
/-- A slice of uses that came in. -/
theorem uses_field {n : Nat} {u : Value} {y : DataW H × List MemPlace} (h : DataW.trod enc Try.prog w 0 (fun _ => true) true n 22 [u] = some y) : ∃ (a : Option Addr) (len cap : Nat) (us : List Us), u = .slice a len cap ∧ len ≤ cap ∧ Uses w w.heap.size a len us := by
  rcases open_slice Try.underlying22 h with ⟨hcs, _⟩ | ⟨x, l, c, m, k, D, Pl, hcs, _, hl, hm, hmm, _, hel⟩
  · simp at hcs
    exact ⟨_, _, _, [], hcs, by omega, ⟨rfl, by omega, fun k u hu => by simp at hu, fun h => absurd h (by omega)⟩⟩
  · simp at hcs
    have hml : l ≤ m := by rw [hmm]; simp; exact hl
    have h6 : Try.prog.cellsOf 40 = 6 := by kernel_rfl
    rw [h6] at hel
    obtain ⟨f, hf⟩ := choose_lt (α := Us) (n := l) (p := fun i u => u.Ok w w.heap.size ∧ ∀ (j : Nat) (v : Value), u.cells[j]? = some v → w.cell? ((x.add (i * 6)).add j) = some v) (fun i hi => by
      obtain ⟨cs', hc, ht⟩ := hel i (by omega)
      obtain ⟨u, rfl, hu⟩ := use_cells ht
      obtain ⟨_, hlen, hcell⟩ := World.cells?_some hc
      refine ⟨u, hu, fun j v hj => ?_⟩
      have hjl : j < 6 := by have := (List.getElem?_eq_some_iff.1 hj).1; omega
      rw [hcell j hjl, hj])
    have hget : ∀ (k : Nat) (u : Us), ((List.range l).map f)[k]? = some u → k < l ∧ u = f k := fun k u hu => by
      rw [List.getElem?_map] at hu
      by_cases hk : k < l
      · rw [List.getElem?_range hk] at hu
        simp at hu
        exact ⟨hk, hu.symm⟩
      · rw [List.getElem?_eq_none (by simpa using hk)] at hu
        simp at hu
    unfold maxLen at hm
    refine ⟨_, _, _, (List.range l).map f, hcs, hl, ⟨by simp, by omega, fun k u hu => ?_, fun h0 => ?_⟩⟩
    · obtain ⟨hk, rfl⟩ := hget k u hu
      exact (hf k hk).1
    · have h1 := (hf 0 h0).2 0 _ rfl
      obtain ⟨b, o, sp⟩ := x
      have hsp : sp = none := by simpa [Addr.add] using World.cell?_spot h1
      subst hsp
      have h2 : w.cell? ⟨b, o, none⟩ = some (.int .u8 (f 0).kind) := by simpa [Addr.add] using h1
      refine ⟨b, o, rfl, lt_of_cell h2, fun k u hu j v hv => ?_⟩
      obtain ⟨hk, rfl⟩ := hget k u hu
      have h3 := (hf k hk).2 j v hv
      rw [Deep.add_add] at h3
      have e : (⟨b, o, none⟩ : Addr).add (k * 6 + j) = ⟨b, o + k * 6 + j, none⟩ := by
        unfold Addr.add
        by_cases q : k * 6 + j = 0
        · rw [if_pos q]; congr 1; omega
        · rw [if_neg q]; congr 1; show o + (k * 6 + j) = _; omega
      rw [e] at h3
      exact h3
end
end Go.Proofs.Ytnopeifgcpibaaa
