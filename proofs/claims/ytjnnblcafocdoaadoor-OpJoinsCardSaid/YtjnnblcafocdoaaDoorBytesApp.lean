/-
  Appends of bytes, as laws for the walk: a row of the call's own, nil or not, grows by another slice's bytes. No statement about a Go function.
-/
import Derived.Test.YtjnnblcafocdoaaDoorBytes
import Derived.Test.YtjnnblcafocdoaaDoorAppRun
namespace Go.Proofs.YtjnnblcafocdoaaDoor
open Go.ChangeShapes Go.WideShapes Go.ChangeAt Go.RowKit Go.Deep

theorem infoU8 : (Tryd.prog.info? 5).map (fun i => (i.zero, i.size, i.bytes)) = some (some (.int .u8 0), 1, 1) := by kernel_rfl
/-- Bytes as cells. -/
def cellsB (xs : List Int) : List Value := xs.map (Value.int .u8)
theorem cellsB_app (xs ys : List Int) : cellsB (xs ++ ys) = cellsB xs ++ cellsB ys := List.map_append
/-- A row of the call's own that holds the bytes xs; nil, if there are none. -/
def OwnB (w : World) (base : Nat) (v : Value) (n : Nat) (xs : List Int) : Prop := w.ownsRow base 5 1 v n (cellsB xs)
section
variable {w w' : World} {base n : Nat} {v : Value} {xs ys : List Int}
theorem OwnB.nil (w : World) (base : Nat) : OwnB w base (.slice none 0 0) 0 [] := ⟨rfl, .inl ⟨rfl, rfl⟩⟩
theorem OwnB.len (h : OwnB w base v n xs) : xs.length = n := by have := h.1; simpa [cellsB] using this
theorem OwnB.on (h : OwnB w base v n xs) (hb : Below w.heap.size w w') : OwnB w' base v n xs :=
  World.ownsRow.kept (row := none) h ⟨hb.os, hb.tape, hb.output, hb.size, fun k hk _ => hb.block k hk⟩ (by cases v.ownBlock <;> simp)
theorem OwnB.form (h : OwnB w base v n xs) : ∃ a c, v = .slice a n c ∧ n ≤ c ∧ (a = none ∨ ∃ g, a = some ⟨g, 0, none⟩ ∧ base ≤ g ∧ g < w.heap.size) := by
  obtain ⟨h1, ⟨rfl, rfl⟩ | ⟨g, cap, cur, hv, hb, hg, hc, _⟩⟩ := h
  · exact ⟨none, 0, rfl, by omega, .inl rfl⟩
  · exact ⟨_, cap, hv, hc, .inr ⟨g, rfl, hb, (Array.getElem?_eq_some_iff.1 hg).1⟩⟩
theorem OwnB.bytes (h : OwnB w base v n xs) (hf : Byt xs) (hm : n ≤ 9223372036854775807) : ∃ a c, v = .slice a n c ∧ n ≤ c ∧ Bytes w w.heap.size a n xs := by
  have hl := h.len
  obtain ⟨a, c, rfl, hc, hw⟩ := h.form
  refine ⟨a, c, rfl, hc, hl, hm, hf, fun hn => ?_⟩
  rcases hw with rfl | ⟨g, rfl, _, hg⟩
  · rcases h.2 with ⟨e, rfl⟩ | ⟨_, _, _, e, _⟩
    · omega
    · cases e
  · refine ⟨g, 0, rfl, hg, fun k s hs => ?_⟩
    have hk := (List.getElem?_eq_some_iff.1 hs).1
    have := World.ownsRow.cellAt h k (by omega)
    rw [Nat.zero_add]
    simpa [cellsB, hs] using this
end
theorem run_append_noneB (w : World) (b : Option Addr) (n cap : Nat) (c : Nat) (ty : TypeId) (h : n ≤ cap) :
    (Builtin.append_ #[25, 25] ty #[.slice b n cap, .slice none 0 c]).run Tryd.prog w = .ok (.slice b n cap) w := by
  obtain ⟨i0, hi, hz0, hz1, hz2⟩ := info_parts infoU8
  cases b <;> simp [Builtin.append_, run_underlying slice31, sizeOf, typeInfo, hi, Builtin.lenOf, h, run_firstCells_none, storeCells]
theorem newsB {w : World} {B m : Nat} {ad : Addr} {ys : List Int} (h : Bytes w B (some ad) m ys) : ∀ (j : Nat) (u : Value), (cellsB ys)[j]? = some u → w.cell? (ad.add j) = some u := by
  intro j u hu
  unfold cellsB at hu
  rw [List.getElem?_map] at hu
  cases hs : ys[j]? with
  | none => rw [hs] at hu; simp at hu
  | some s =>
    rw [hs] at hu
    simp at hu
    subst hu
    have hj := (List.getElem?_eq_some_iff.1 hs).1
    obtain ⟨b, o, e, _, hc⟩ := h.head (by have := h.len; omega)
    injection e with e
    subst e
    have := hc j s hs
    by_cases h0 : j = 0
    · subst h0; simpa [Addr.add] using this
    · simpa [Addr.add, h0] using this
/-- A row of the call's own, nil or not, grows by the bytes of another slice. -/
theorem app_bytes {w : World} {base n m c : Nat} {v : Value} {al : Option Addr} {xs ys : List Int} (hown : OwnB w base v n xs) (hy : Bytes w w.heap.size al m ys) (hb : base ≤ w.heap.size) (hm : n + m ≤ 1000000000) (ty : TypeId) :
    ∃ v' w', (Builtin.append_ #[25, 25] ty #[v, .slice al m c]).run Tryd.prog w = .ok v' w' ∧ OwnB w' base v' (n + m) (xs ++ ys) ∧ Below base w w' ∧ w.grownBy w' v.ownBlock := by
  obtain ⟨i0, hi, hz0, hz1, hz2⟩ := info_parts infoU8
  by_cases h0 : al = none
  · subst h0
    have hm0 : m = 0 := by
      rcases Nat.eq_zero_or_pos m with e | e
      · exact e
      · obtain ⟨b, o, e, _⟩ := hy.head e
        cases e
    have hys : ys = [] := List.length_eq_zero_iff.1 (by rw [hy.len]; exact hm0)
    subst hm0 hys
    refine ⟨v, w, ?_, by rw [List.append_nil, Nat.add_zero]; exact hown, Below.refl _ _, ⟨rfl, rfl, rfl, Nat.le_refl _, fun _ _ _ => rfl⟩⟩
    obtain ⟨a, c', rfl, hc, _⟩ := hown.form
    exact run_append_noneB w a n c' c ty hc
  · obtain ⟨ad, rfl⟩ : ∃ ad, al = some ad := by
      cases al with
      | none => exact absurd rfl h0
      | some ad => exact ⟨ad, rfl⟩
    have hl := hown.len
    obtain ⟨v', w', hr, h2, h3, _, _⟩ := run_append_own_at (P := Tryd.prog) w base 25 ty 5 i0 (.int .u8 0) 1 1 slice31 hi hz0 hz1 hz2 rfl (by decide) v n (cellsB xs) hown ad m c (cellsB ys) (by simp [cellsB, hy.len])
      (newsB hy) (fun u hu => by obtain ⟨x, _, rfl⟩ := List.mem_map.1 hu; rfl) (by unfold maxLen; omega) (by omega) hb
    rw [← cellsB_app] at h2
    refine ⟨v', w', hr, h2, Below.grown (Below.refl _ _) h3 hb (fun k hk => ?_), h3⟩
    rcases hown.form with ⟨a, c', rfl, _, rfl | ⟨g, rfl, hg, _⟩⟩
    · simp [Value.ownBlock] at hk
    · simp [Value.ownBlock] at hk
      omega
/-- A byte that was just laid, as a slice of one. -/
theorem one_byte (w : World) (x : Int) (hx : 0 ≤ x ∧ x ≤ 255) : Bytes (w.alloc (.cells #[.int .u8 x] 5)) (w.alloc (.cells #[.int .u8 x] 5)).heap.size (some ⟨w.heap.size, 0, none⟩) 1 [x] := by
  refine ⟨rfl, by omega, fun y hy => by simp at hy; subst hy; exact hx, fun _ => ⟨_, 0, rfl, by simp, fun k s hs => ?_⟩⟩
  match k, hs with
  | 0, hs => simp at hs; subst hs; simp
theorem two_bytes (w : World) (x y : Int) (hx : 0 ≤ x ∧ x ≤ 255) (hy : 0 ≤ y ∧ y ≤ 255) : Bytes (w.alloc (.cells #[.int .u8 x, .int .u8 y] 5)) (w.alloc (.cells #[.int .u8 x, .int .u8 y] 5)).heap.size (some ⟨w.heap.size, 0, none⟩) 2 [x, y] := by
  refine ⟨rfl, by omega, fun z hz => by simp at hz; rcases hz with rfl | rfl <;> assumption, fun _ => ⟨_, 0, rfl, by simp, fun k s hs => ?_⟩⟩
  match k, hs with
  | 0, hs => simp at hs; subst hs; simp
  | 1, hs => simp at hs; subst hs; simp
end Go.Proofs.YtjnnblcafocdoaaDoor
