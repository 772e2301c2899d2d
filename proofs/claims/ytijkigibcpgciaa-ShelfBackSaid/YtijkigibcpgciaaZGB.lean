import Derived.Test.YtijkigibcpgciaaRows
import Derived.WalkKit
import Derived.ProofKit
import Derived.OpenShut
import Derived.Lib.Hide
import Derived.Deep.Draws
import Derived.Test.YtijkigibcpgciaaZGA
import Derived.Deep.Slices
/-
  A slice of ints that reads as a list of numbers, nil let in, in a word of its own; and how it is kept while memory grows. No statement about a Go function.
-/
namespace Go.Proofs.Ytijkigibcpgciaa
open Go.ChangeShapes Go.WideShapes Go.ChangeAt Go.RowKit

/-- The slice value '.slice a n c' holds the n numbers xs, all of them ints of 64 bits, below block B. -/
def Ints (w : World) (B : Nat) (a : Option Addr) (n : Nat) (xs : List Int) : Prop :=
  xs.length = n ∧ n ≤ 9223372036854775807 ∧ (∀ x ∈ xs, -9223372036854775808 ≤ x ∧ x ≤ 9223372036854775807) ∧
    (0 < n → ∃ b o, a = some ⟨b, o, none⟩ ∧ b < B ∧ ∀ (k : Nat) (s : Int), xs[k]? = some s → w.cell? ⟨b, o + k, none⟩ = some (.int .i64 s))

section
variable {w w' : World} {B B' n : Nat} {a : Option Addr} {xs : List Int}
theorem Ints.len (h : Ints w B a n xs) : xs.length = n := h.1
theorem Ints.max (h : Ints w B a n xs) : n ≤ 9223372036854775807 := h.2.1
theorem Ints.fit (h : Ints w B a n xs) {k : Nat} {s : Int} (hk : xs[k]? = some s) : -9223372036854775808 ≤ s ∧ s ≤ 9223372036854775807 := h.2.2.1 s (List.mem_of_getElem? hk)
/-- Where the slice begins, if it has an element. -/
theorem Ints.head (h : Ints w B a n xs) (hn : 0 < n) : ∃ b o, a = some ⟨b, o, none⟩ ∧ b < B ∧ ∀ (k : Nat) (s : Int), xs[k]? = some s → w.cell? ⟨b, o + k, none⟩ = some (.int .i64 s) := h.2.2.2 hn
theorem Ints.at_ (h : Ints w B a n xs) {k : Nat} (hk : k < n) : ∃ s, xs[k]? = some s ∧ -9223372036854775808 ≤ s ∧ s ≤ 9223372036854775807 := by
  have hl : k < xs.length := by rw [h.1]; exact hk
  have hs : xs[k]? = some xs[k] := List.getElem?_eq_getElem hl
  exact ⟨_, hs, h.fit hs⟩
theorem Ints.keep (h : Ints w B a n xs) (hk : ∀ p : Addr, p.block < B → w'.cell? p = w.cell? p) : Ints w' B a n xs :=
  ⟨h.1, h.2.1, h.2.2.1, fun hn => by
    obtain ⟨b, o, e, hb, hc⟩ := h.2.2.2 hn
    exact ⟨b, o, e, hb, fun k s hs => (hk _ hb).trans (hc k s hs)⟩⟩
theorem Ints.more (h : Ints w B a n xs) (hB : B ≤ B') : Ints w B' a n xs :=
  ⟨h.1, h.2.1, h.2.2.1, fun hn => by
    obtain ⟨b, o, e, hb, hc⟩ := h.2.2.2 hn
    exact ⟨b, o, e, by omega, hc⟩⟩
theorem Ints.below (h : Ints w B a n xs) (hb : Below B w w') : Ints w' B a n xs := h.keep fun _ hp => hb.cell hp
theorem Ints.on (h : Ints w w.heap.size a n xs) (hb : Below w.heap.size w w') : Ints w' w'.heap.size a n xs := (h.below hb).more hb.size
theorem Ints.drewN (h : Ints w B a n xs) (k : Nat) : Ints (w.drewN k) B a n xs := h
theorem Ints.drew (h : Ints w B a n xs) : Ints w.drew B a n xs := h
theorem Ints.alloc (h : Ints w B a n xs) (hB : B ≤ w.heap.size) (o : Obj) : Ints (w.alloc o) B a n xs := h.keep fun p hp => World.cell?_alloc_lt w o p (by omega)
end

theorem wf_i64 {x : Int} (h : (Lit.int .i64 x).wf = true) : -9223372036854775808 ≤ x ∧ x ≤ 9223372036854775807 := by
  simpa [Lit.wf, IntKind.min, IntKind.max, IntKind.signed, IntKind.bits] using h

/-- What the frame of a law is told of a slice of ints, in this text's word: the elements alone. -/
theorem Ints.of_row {w : World} {a : Option Addr} {len cap : Nat} {zs : List Int}
    (h : (a = none ∧ len = 0 ∧ cap = 0 ∧ zs = []) ∨
      ∃ x, a = some x ∧ len ≤ cap ∧ cap ≤ maxLen ∧ zs.length = cap ∧ (∀ i, i < zs.length → w.cell? (x.add i) = some (.int .i64 (zs.getD i 0))) ∧ ∀ n ∈ zs, (Lit.int .i64 n).wf = true) :
    Ints w w.heap.size a len (zs.take len) := by
  rcases h with ⟨rfl, rfl, rfl, rfl⟩ | ⟨⟨b, o, sp⟩, rfl, hl, hm, hz, hc, hw⟩
  · exact ⟨rfl, by omega, by simp, fun h => absurd h (by omega)⟩
  · unfold maxLen at hm
    refine ⟨by rw [List.length_take]; omega, by omega, fun x hx => wf_i64 (hw x (List.mem_of_mem_take hx)), fun hn => ?_⟩
    have h0 := hc 0 (by omega)
    have hsp : sp = none := by simpa [Addr.add] using World.cell?_spot h0
    subst hsp
    refine ⟨b, o, rfl, ?_, fun k s hs => ?_⟩
    · have h1 : w.cell? ⟨b, o, none⟩ = some (.int .i64 (zs.getD 0 0)) := by simpa [Addr.add] using h0
      rcases Nat.lt_or_ge b w.heap.size with g | g
      · exact g
      · simp [World.cell?, Array.getElem?_eq_none g] at h1
    · rw [List.getElem?_take] at hs
      split at hs
      · obtain ⟨hk, e⟩ := List.getElem?_eq_some_iff.1 hs
        have h2 := hc k hk
        have e2 : zs.getD k 0 = s := by rw [List.getD_eq_getElem?_getD, hs]; rfl
        rw [e2] at h2
        by_cases hk0 : k = 0
        · subst hk0; simpa [Addr.add] using h2
        · simpa [Addr.add, hk0] using h2
      · cases hs
end Go.Proofs.Ytijkigibcpgciaa
/-
  More of slices of ints: cut at the front, kept behind a store, as what an append takes, and out of an own row. No statement about a Go function.
-/
namespace Go.Proofs.Ytijkigibcpgciaa
open Go.ChangeShapes Go.WideShapes Go.ChangeAt Go.RowKit

theorem Ints.tail {w : World} {B n b o : Nat} {xs : List Int} (h : Ints w B (some ⟨b, o, none⟩) n xs) : Ints w B (some ⟨b, o + 1, none⟩) (n - 1) (xs.drop 1) := by
  have hl := h.len
  refine ⟨by simp [hl], by have := h.max; omega, fun x hx => h.2.2.1 x (List.mem_of_mem_drop hx), fun hn => ?_⟩
  obtain ⟨b', o', e, hb, hc⟩ := h.head (by omega)
  injection e with e
  injection e with e1 e2
  subst e1 e2
  refine ⟨b, o + 1, rfl, hb, fun k s hs => ?_⟩
  have := hc (1 + k) s (by rw [← List.getElem?_drop]; exact hs)
  rw [show o + 1 + k = o + (1 + k) by omega]; exact this
theorem Ints.last {w : World} {B n : Nat} {a : Option Addr} {xs : List Int} (h : Ints w B a n xs) (hn : n ≤ 1) (a' : Option Addr) : Ints w B a' (n - 1) (xs.drop 1) := by
  have hl := h.len
  exact ⟨by simp [hl], by have := h.max; omega, fun x hx => h.2.2.1 x (List.mem_of_mem_drop hx), fun hp => absurd hp (by omega)⟩
theorem Ints.setCell {w : World} {B n : Nat} {a : Option Addr} {xs : List Int} (h : Ints w B a n xs) {p : Addr} (hp : B ≤ p.block) (u : Value) : Ints (w.setCell p u) B a n xs :=
  h.keep fun q hq => World.cell?_setCell_other w p q u (fun e => by subst e; omega)
theorem newsOf {w : World} {B n b o : Nat} {xs : List Int} (h : Ints w B (some ⟨b, o, none⟩) n xs) : ∀ (j : Nat) (u : Value), (xs.map (Value.int .i64))[j]? = some u → w.cell? ((⟨b, o, none⟩ : Addr).add j) = some u := by
  intro j u hu
  rw [List.getElem?_map] at hu
  cases hx : xs[j]? with
  | none => rw [hx] at hu; simp at hu
  | some x =>
    rw [hx] at hu
    simp at hu
    subst hu
    have hj := (List.getElem?_eq_some_iff.1 hx).1
    obtain ⟨b', o', e, _, hc⟩ := h.head (by have := h.len; omega)
    injection e with e
    injection e with e1 e2
    subst e1 e2
    have := hc j x hx
    by_cases h0 : j = 0
    · subst h0; simpa [Addr.add] using this
    · simpa [Addr.add, h0] using this
theorem ints_of_own {w : World} {base g cap : Nat} {e : TypeId} {n : Nat} {ts : List Int} (h : w.ownsRow base e 1 (.slice (some ⟨g, 0, none⟩) n cap) n (ts.map (Value.int .i64))) (hn : 0 < n) (hm : n ≤ 9223372036854775807)
    (hf : ∀ x ∈ ts, -9223372036854775808 ≤ x ∧ x ≤ 9223372036854775807) : Ints w w.heap.size (some ⟨g, 0, none⟩) n ts := by
  obtain ⟨g', cap', hv, hb, hg⟩ := h.form hn
  injection hv with hv
  injection hv with hv
  injection hv with hv
  subst hv
  have hlen : ts.length = n := by have := h.1; simpa using this
  refine ⟨hlen, hm, hf, fun _ => ⟨g, 0, rfl, hg, fun k s hs => ?_⟩⟩
  obtain ⟨hk, _⟩ := List.getElem?_eq_some_iff.1 hs
  have := h.cellAt k (by omega)
  rw [List.getElem?_map, hs] at this
  simpa using this
end Go.Proofs.Ytijkigibcpgciaa
/-
  Appends and cuts of slices of ints, as laws for the walk; ints kept by what turns other blocks. No statement about a Go function.
-/
namespace Go.Proofs.Ytijkigibcpgciaa
open Go.ChangeShapes Go.WideShapes Go.ChangeAt Go.RowKit Go.Deep

theorem infoInt : (Try.prog.info? 3).map (fun i => (i.zero, i.size, i.bytes)) = some (some (.int .i64 0), 1, 8) := by kernel_rfl
theorem run_append_none (w : World) (b : Option Addr) (n cap : Nat) (c : Nat) (ty : TypeId) (h : n ≤ cap) :
    (Builtin.append_ #[31, 31] ty #[.slice b n cap, .slice none 0 c]).run Try.prog w = .ok (.slice b n cap) w := by
  obtain ⟨i0, hi, hz0, hz1, hz2⟩ := info_parts infoInt
  cases b <;> simp [Builtin.append_, run_underlying Try.underlying31, sizeOf, typeInfo, hi, Builtin.lenOf, h, run_firstCells_none, storeCells]

section
variable {w : World} {base g n cap m c : Nat} {xs ys : List Int} {al : Option Addr}
/-- A row of the call's own grows by the ints of another one. -/
theorem app_ints (hown : w.ownsRow base 3 1 (.slice (some ⟨g, 0, none⟩) n cap) n (xs.map (Value.int .i64))) (hy : Ints w w.heap.size al m ys) (hb : base ≤ w.heap.size) (hm : n + m ≤ 1000000) (ty : TypeId) :
    ∃ g' cap' w', (Builtin.append_ #[31, 31] ty #[.slice (some ⟨g, 0, none⟩) n cap, .slice al m c]).run Try.prog w = .ok (.slice (some ⟨g', 0, none⟩) (n + m) cap') w' ∧
      w'.ownsRow base 3 1 (.slice (some ⟨g', 0, none⟩) (n + m) cap') (n + m) ((xs ++ ys).map (Value.int .i64)) ∧ Below base w w' := by
  obtain ⟨i0, hi, hz0, hz1, hz2⟩ := info_parts infoInt
  have hg := hown.lt g rfl
  have hcap : n ≤ cap := by
    rcases hown.2 with ⟨e, _⟩ | ⟨g', cap', cur, hv, _, _, hc, _⟩
    · cases e
    · injection hv with _ _ e3
      omega
  by_cases h0 : al = none
  · subst h0
    have hm0 : m = 0 := by
      rcases Nat.eq_zero_or_pos m with e | e
      · exact e
      · obtain ⟨b, o, e, _⟩ := hy.head e
        cases e
    have hys : ys = [] := List.length_eq_zero_iff.1 (by rw [hy.len]; exact hm0)
    subst hm0 hys
    refine ⟨g, cap, w, run_append_none w _ n cap c ty hcap, ?_, Below.refl _ _⟩
    rw [List.append_nil, Nat.add_zero]
    exact hown
  · obtain ⟨ad, rfl⟩ : ∃ ad, al = some ad := by
      cases al with
      | none => exact absurd rfl h0
      | some ad => exact ⟨ad, rfl⟩
    obtain ⟨v', w', hr, h2, h3, _, h5⟩ := run_append_own_at (P := Try.prog) w base 31 ty 3 i0 (.int .i64 0) 1 8 Try.underlying31 hi hz0 hz1 hz2 rfl Nat.one_pos (.slice (some ⟨g, 0, none⟩) n cap) n (xs.map (Value.int .i64)) hown ad m c (ys.map (Value.int .i64)) (by simp [hy.len])
      (fun j u hu => by
        have hj : j < ys.length := by have := (List.getElem?_eq_some_iff.1 hu).1; simpa using this
        obtain ⟨b, o, e, _, _⟩ := hy.head (by have := hy.len; omega)
        cases e
        exact newsOf hy j u hu)
      (fun u hu => by obtain ⟨x, _, rfl⟩ := List.mem_map.1 hu; rfl) (by unfold maxLen; omega) (by omega) hb
    rw [← List.map_append] at h2
    have hv : ∃ g' cap', v' = .slice (some ⟨g', 0, none⟩) (n + m) cap' := by
      rcases h2.2 with ⟨e, _⟩ | ⟨g', cap', _, hv, _⟩
      · subst e
        rcases h5 with h5 | h5 <;> simp [Value.ownBlock] at h5
      · exact ⟨g', cap', hv⟩
    obtain ⟨g', cap', rfl⟩ := hv
    exact ⟨g', cap', w', hr, h2, Below.grown (Below.refl _ _) h3 hb (fun k hk => by simp [Value.ownBlock] at hk; omega)⟩
end

/-- A row of the call's own, as ints. -/
theorem ints_own {w : World} {base g n cap : Nat} {xs : List Int} (h : w.ownsRow base 3 1 (.slice (some ⟨g, 0, none⟩) n cap) n (xs.map (Value.int .i64))) (hm : n ≤ 1000000) (hf : ∀ x ∈ xs, -9223372036854775808 ≤ x ∧ x ≤ 9223372036854775807) : Ints w w.heap.size (some ⟨g, 0, none⟩) n xs ∧ n ≤ cap := by
  constructor
  · rcases Nat.eq_zero_or_pos n with e | e
    · have hl : xs.length = n := by have := h.1; simpa using this
      exact ⟨hl, by omega, hf, fun q => absurd q (by omega)⟩
    · exact ints_of_own h e (by omega) hf
  · rcases h.2 with ⟨e, _⟩ | ⟨g', cap', cur, hv, _, _, hc, _⟩
    · cases e
    · injection hv with _ _ e3
      omega

/-! ### Cuts -/
section
variable {w : World} {B n : Nat} {a : Option Addr} {xs : List Int}
theorem Ints.take (h : Ints w B a n xs) {k : Nat} (hk : k ≤ n) : Ints w B a k (xs.take k) := by
  have hl := h.len
  refine ⟨by rw [List.length_take]; omega, by have := h.max; omega, fun x hx => h.2.2.1 x (List.mem_of_mem_take hx), fun hn => ?_⟩
  obtain ⟨b, o, e, hb, hc⟩ := h.head (by omega)
  refine ⟨b, o, e, hb, fun j s hs => ?_⟩
  rw [List.getElem?_take] at hs
  split at hs
  · exact hc j s hs
  · cases hs
end
/-- 'l[:k]' is run so. -/
theorem cut_to {b o n c k : Nat} (hk : k ≤ n) (hnc : n ≤ c) (v : World) :
    (Instr.sliceAt 31 (.slice (some ⟨b, o, none⟩) n c) none (some (.int .i64 (k : Int))) none).run Try.prog v = .ok (.slice (some ⟨b, o, none⟩) k c) v := by
  have hu : Try.prog.underlying 31 = some (.slice (Try.prog.elem 31)) := by kernel_rfl
  have hs : ∀ v, (sizeOf (Try.prog.elem 31)).run Try.prog v = .ok 1 v := fun v => by kernel_rfl
  rw [run_sliceAt_slice _ _ _ _ _ _ hu, run_slice_h _ _ _ _ _ hu _ _ (by omega) (by omega), hs]
  simp [Result.andThen, sliced, Addr.add]
/-- 'l[k:]' is run so. -/
theorem cut_tail {w : World} {B b o n c : Nat} {xs : List Int} (h : Ints w B (some ⟨b, o, none⟩) n xs) {k : Nat} (hk : k ≤ n) (hnc : n ≤ c) :
    ∃ (o' c' : Nat), n - k ≤ c' ∧ (∀ v, (Instr.sliceAt 31 (.slice (some ⟨b, o, none⟩) n c) (some (.int .i64 (k : Int))) none none).run Try.prog v = .ok (.slice (some ⟨b, o', none⟩) (n - k) c') v) ∧ Ints w B (some ⟨b, o', none⟩) (n - k) (xs.drop k) := by
  have hu : Try.prog.underlying 31 = some (.slice (Try.prog.elem 31)) := by kernel_rfl
  have hs : ∀ v, (sizeOf (Try.prog.elem 31)).run Try.prog v = .ok 1 v := fun v => by kernel_rfl
  have run : ∀ v, (Instr.sliceAt 31 (.slice (some ⟨b, o, none⟩) n c) (some (.int .i64 (k : Int))) none none).run Try.prog v = .ok (sliced (some ⟨b, o, none⟩) k n c 1) v := by
    intro v
    rw [run_sliceAt_slice _ _ _ _ _ _ hu, run_slice_l _ _ _ _ _ hu _ _ (by omega) (by omega), hs]
    simp [Result.andThen]
  have hl := h.len
  by_cases hc : c = k
  · exact ⟨o, c - k, by omega, fun v => (run v).trans (by simp [sliced, hc]), ⟨by rw [List.length_drop]; omega, by have := h.max; omega, fun x hx => h.2.2.1 x (List.mem_of_mem_drop hx), fun q => absurd q (by omega)⟩⟩
  · refine ⟨o + k, c - k, by omega, fun v => (run v).trans ?_, ⟨by rw [List.length_drop]; omega, by have := h.max; omega, fun x hx => h.2.2.1 x (List.mem_of_mem_drop hx), fun q => ?_⟩⟩
    · by_cases h0 : k = 0
      · subst h0; simp [sliced, Addr.add]
      · simp [sliced, hc, Addr.add, h0]
    · obtain ⟨b', o', e, hb, hcell⟩ := h.head (by omega)
      injection e with e
      injection e with e1 e2
      subst e1 e2
      refine ⟨b, o + k, rfl, hb, fun j s hs => ?_⟩
      rw [List.getElem?_drop] at hs
      rw [Nat.add_assoc]
      exact hcell (k + j) s hs

theorem cut_from {w : World} {B b o n c : Nat} {xs : List Int} (h : Ints w B (some ⟨b, o, none⟩) n xs) {k : Nat} (hk : k ≤ n) (hnc : n ≤ c) :
    ∃ (a' : Option Addr) (c' : Nat), n - k ≤ c' ∧ (∀ v, (Instr.sliceAt 31 (.slice (some ⟨b, o, none⟩) n c) (some (.int .i64 (k : Int))) none none).run Try.prog v = .ok (.slice a' (n - k) c') v) ∧ Ints w B a' (n - k) (xs.drop k) := by
  obtain ⟨o', c', h1, h2, h3⟩ := cut_tail h hk hnc
  exact ⟨_, c', h1, h2, h3⟩

/-! ### Ints kept by what turns other blocks -/
section
variable {w w' : World} {S : Nat → Prop} {a : Option Addr} {n : Nat}
theorem Ints.butAt {B b o : Nat} {xs : List Int} (h : Ints w B (some ⟨b, o, none⟩) n xs) (hb : But S w w') (hB : B ≤ w.heap.size) (hn : ¬ S b) : Ints w' B (some ⟨b, o, none⟩) n xs :=
  ⟨h.1, h.2.1, h.2.2.1, fun h0 => by
    obtain ⟨b', o', e, hl, hc⟩ := h.2.2.2 h0
    injection e with e
    injection e with e1 e2
    subst e1 e2
    exact ⟨b, o, rfl, hl, fun k s hs => (hb.cell (p := ⟨b, o + k, none⟩) (by show b < _; omega) hn).trans (hc k s hs)⟩⟩
theorem Ints.far {B : Nat} {xs : List Int} (h : Ints w B a n xs) (hb : But S w w') (hB : B ≤ w.heap.size) (hn : 0 < n → ∃ f o, a = some ⟨f, o, none⟩ ∧ ¬ S f) : Ints w' B a n xs := by
  by_cases h0 : 0 < n
  · obtain ⟨f, o, rfl, hf⟩ := hn h0
    exact h.butAt hb hB hf
  · exact ⟨h.1, h.2.1, h.2.2.1, fun q => absurd q h0⟩
end

/-! ### One more int behind a row of the call's own -/
theorem app_one {w : World} {base : Nat} {v : Value} {k : Nat} {xs : List Int} (hown : w.ownsRow base 3 1 v k (xs.map (Value.int .i64))) (hb : base ≤ w.heap.size) (hm : k ≤ 1000000) (y : Int) (ty : TypeId) :
    ∃ g cap w', (Builtin.append_ #[31, 31] ty #[v, .slice (some ⟨w.heap.size, 0, none⟩) 1 1]).run Try.prog (w.alloc (.cells #[.int .i64 y] 3)) = .ok (.slice (some ⟨g, 0, none⟩) (k + 1) cap) w' ∧
      w'.ownsRow base 3 1 (.slice (some ⟨g, 0, none⟩) (k + 1) cap) (k + 1) ((xs ++ [y]).map (Value.int .i64)) ∧ (w.alloc (.cells #[.int .i64 y] 3)).grownBy w' v.ownBlock ∧ (v.ownBlock = some g ∨ g = w.heap.size + 1) := by
  obtain ⟨i0, hi, hz0, hz1, hz2⟩ := info_parts infoInt
  obtain ⟨v', w', hr, h2, h3, _, h5⟩ := run_append_own_at (P := Try.prog) (w.alloc (.cells #[.int .i64 y] 3)) base 31 ty 3 i0 (.int .i64 0) 1 8 Try.underlying31 hi hz0 hz1 hz2 rfl Nat.one_pos v k (xs.map (Value.int .i64)) (hown.alloc _) ⟨w.heap.size, 0, none⟩ 1 1 [.int .i64 y] rfl
    (newsOne (by simp)) (fun u hu => by rw [List.mem_singleton.1 hu]; rfl) (by unfold maxLen; omega) (by omega) (by simp; omega)
  obtain ⟨g, cap, rfl, hg, _⟩ := h2.form (by omega)
  refine ⟨g, cap, w', hr, by rw [List.map_append]; exact h2, h3, ?_⟩
  rcases h5 with h5 | h5
  · exact Or.inl h5.symm
  · simp [Value.ownBlock] at h5
    exact Or.inr h5
end Go.Proofs.Ytijkigibcpgciaa
