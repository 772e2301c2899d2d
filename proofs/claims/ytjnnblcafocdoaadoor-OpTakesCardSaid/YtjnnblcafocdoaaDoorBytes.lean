/-
  Bytes in memory: a slice of bytes that reads as a list ('Bytes', nil let in), a block of bytes that may be written ('Row'), and how make, copy, clear, cuts and string(..) run over them. No statement about a Go function.
-/
import Derived.Test.YtjnnblcafocdoaaDoorBut
import Derived.Test.YtjnnblcafocdoaaDoorBytesNum
import Derived.Lib.SliceRun
import Derived.Lib.Hide
import Derived.Laws.BytesArg
import Derived.Laws.MakeOwn
namespace Go.Proofs.YtjnnblcafocdoaaDoor
open Go.ChangeShapes Go.WideShapes Go.ChangeAt Go.RowKit

/-- The slice value '.slice a n c' holds the n bytes xs, below block B. -/
def Bytes (w : World) (B : Nat) (a : Option Addr) (n : Nat) (xs : List Int) : Prop :=
  xs.length = n ∧ n ≤ 9223372036854775807 ∧ Byt xs ∧
    (0 < n → ∃ b o, a = some ⟨b, o, none⟩ ∧ b < B ∧ ∀ (k : Nat) (s : Int), xs[k]? = some s → w.cell? ⟨b, o + k, none⟩ = some (.int .u8 s))

section
variable {w w' : World} {B B' n : Nat} {a : Option Addr} {xs : List Int}
theorem Bytes.len (h : Bytes w B a n xs) : xs.length = n := h.1
theorem Bytes.max (h : Bytes w B a n xs) : n ≤ 9223372036854775807 := h.2.1
theorem Bytes.fit (h : Bytes w B a n xs) : Byt xs := h.2.2.1
theorem Bytes.head (h : Bytes w B a n xs) (hn : 0 < n) : ∃ b o, a = some ⟨b, o, none⟩ ∧ b < B ∧ ∀ (k : Nat) (s : Int), xs[k]? = some s → w.cell? ⟨b, o + k, none⟩ = some (.int .u8 s) := h.2.2.2 hn
theorem Bytes.at_ (h : Bytes w B a n xs) {k : Nat} (hk : k < n) : ∃ s, xs[k]? = some s ∧ 0 ≤ s ∧ s ≤ 255 := by
  have hs : xs[k]? = some (xs[k]'(by rw [h.1]; exact hk)) := List.getElem?_eq_getElem _
  exact ⟨_, hs, h.fit.get hs⟩
theorem Bytes.keep (h : Bytes w B a n xs) (hk : ∀ p : Addr, p.block < B → w'.cell? p = w.cell? p) : Bytes w' B a n xs :=
  ⟨h.1, h.2.1, h.2.2.1, fun hn => by
    obtain ⟨b, o, e, hb, hc⟩ := h.2.2.2 hn
    exact ⟨b, o, e, hb, fun k s hs => (hk _ hb).trans (hc k s hs)⟩⟩
theorem Bytes.more (h : Bytes w B a n xs) (hB : B ≤ B') : Bytes w B' a n xs :=
  ⟨h.1, h.2.1, h.2.2.1, fun hn => by
    obtain ⟨b, o, e, hb, hc⟩ := h.2.2.2 hn
    exact ⟨b, o, e, by omega, hc⟩⟩
theorem Bytes.below (h : Bytes w B a n xs) (hb : Below B w w') : Bytes w' B a n xs := h.keep fun _ hp => hb.cell hp
theorem Bytes.on (h : Bytes w w.heap.size a n xs) (hb : Below w.heap.size w w') : Bytes w' w'.heap.size a n xs := (h.below hb).more hb.size
theorem Bytes.drewN (h : Bytes w B a n xs) (k : Nat) : Bytes (w.drewN k) B a n xs := h
theorem Bytes.drew (h : Bytes w B a n xs) : Bytes w.drew B a n xs := h
theorem Bytes.alloc (h : Bytes w B a n xs) (hB : B ≤ w.heap.size) (o : Obj) : Bytes (w.alloc o) B a n xs := h.keep fun p hp => World.cell?_alloc_lt w o p (by omega)
theorem Bytes.setCell (h : Bytes w B a n xs) {p : Addr} (hp : B ≤ p.block) (u : Value) : Bytes (w.setCell p u) B a n xs := h.keep fun q hq => World.cell?_setCell_other w p q u (fun e => by subst e; omega)
/-- Where only blocks of S turn, bytes that lie elsewhere stay. -/
theorem Bytes.but {S : Nat → Prop} (h : Bytes w B a n xs) (hb : But S w w') (hB : B ≤ w.heap.size) (hS : ∀ i, i < B → ¬ S i) : Bytes w' B a n xs := h.keep fun p hp => hb.cell (by omega) (hS _ hp)
theorem Bytes.zero (w : World) (B : Nat) (a : Option Addr) : Bytes w B a 0 [] := ⟨rfl, by omega, Byt.nil, fun h => absurd h (by omega)⟩
theorem Bytes.eq_nil (h : Bytes w B a 0 xs) : xs = [] := List.eq_nil_of_length_eq_zero h.1
end

/-- Block g holds the bytes xs, and may be written. -/
structure Row (w : World) (g : Nat) (xs : List Int) : Prop where
  cell : ∀ (k : Nat) (s : Int), xs[k]? = some s → w.cell? ⟨g, k, none⟩ = some (.int .u8 s)
  free : ∀ k, k < xs.length → w.frozen? ⟨g, k, none⟩ = false
  fit : Byt xs
  size : g < w.heap.size
  max : xs.length ≤ 4194304
section
variable {w w' : World} {g : Nat} {xs ys : List Int}
theorem Row.but {S : Nat → Prop} (h : Row w g xs) (hb : But S w w') (hn : ¬ S g) : Row w' g xs :=
  ⟨fun k s hs => (hb.cell (p := ⟨g, k, none⟩) h.size hn).trans (h.cell k s hs), fun k hk => (hb.frozen (p := ⟨g, k, none⟩) h.size hn).trans (h.free k hk), h.fit, Nat.lt_of_lt_of_le h.size hb.size, h.max⟩
theorem Row.below (h : Row w g xs) (hb : Below w.heap.size w w') : Row w' g xs := h.but (Below.but hb fun _ => False) id
theorem Row.drewN (h : Row w g xs) (k : Nat) : Row (w.drewN k) g xs := h.but ((But.refl (fun _ => False) w).drewN k) id
theorem Row.some_ (h : Row w g xs) {k : Nat} (hk : k < xs.length) : (w.cell? ⟨g, k, none⟩).isSome = true := by
  rw [h.cell k _ (List.getElem?_eq_getElem hk)]; rfl
theorem Row.set (h : Row w g xs) {k : Nat} {c : Int} (hk : k < xs.length) (h0 : 0 ≤ c) (h1 : c ≤ 255) : Row (w.setCell ⟨g, k, none⟩ (.int .u8 c)) g (xs.set k c) := by
  refine ⟨fun j s hs => ?_, fun j hj => ?_, h.fit.set h0 h1 k, by simpa [World.setCell] using h.size, by rw [List.length_set]; exact h.max⟩
  · rw [List.getElem?_set] at hs
    by_cases e : k = j
    · subst e
      rw [if_pos rfl, if_pos hk] at hs
      cases hs
      exact World.cell?_setCell_same w _ _ (h.cell k _ (List.getElem?_eq_getElem hk))
    · rw [if_neg e] at hs
      exact (World.cell?_setCell_other w ⟨g, k, none⟩ ⟨g, j, none⟩ _ (fun q => e (by injection q))).trans (h.cell j s hs)
  · rw [List.length_set] at hj
    simpa using h.free j hj
/-- k of them from place at on; o, where the slice begins, need be at only if there is one. -/
theorem Row.bytes (h : Row w g xs) {at_ o k : Nat} (hk : at_ + k ≤ xs.length) (ho : 0 < k → o = at_) : Bytes w w.heap.size (some ⟨g, o, none⟩) k (sub xs at_ k) := by
  have hm := h.max
  refine ⟨length_sub _ _ _ hk, by omega, h.fit.sub _ _, fun h0 => ⟨g, o, rfl, h.size, fun j s hs => ?_⟩⟩
  have hj : j < k := by have := (List.getElem?_eq_some_iff.1 hs).1; rwa [length_sub _ _ _ hk] at this
  rw [sub_get hj] at hs
  rw [ho h0]
  exact h.cell _ _ hs
end

theorem But.setCells {S : Nat → Prop} {a : World} {g : Nat} : ∀ (vs : List Value) (o : Nat) {w : World}, But S a w → (g < a.heap.size → S g) → But S a (w.setCells g o vs)
  | [], _, _, h, _ => h
  | v :: r, o, w, h, hS => But.setCells r (o + 1) (w := w.setCell ⟨g, o, none⟩ v) (h.setCell (p := ⟨g, o, none⟩) hS v) hS
theorem Row.lay {w : World} {g : Nat} {xs ys : List Int} (h : Row w g xs) {o : Nat} (ho : o + ys.length ≤ xs.length) (hy : Byt ys) : Row (w.setCells g o (ys.map (Value.int .u8))) g (splice xs o ys) := by
  have hb : But (· = g) w (w.setCells g o (ys.map (Value.int .u8))) := But.setCells (a := w) (w := w) _ _ (But.refl _ _) (fun _ => rfl)
  refine ⟨fun k s hs => ?_, fun k hk => ?_, h.fit.splice hy o, Nat.lt_of_lt_of_le h.size hb.size, by rw [length_splice _ _ _ ho]; exact h.max⟩
  · rw [splice_get _ _ _ ho] at hs
    by_cases h1 : k < o
    · rw [if_pos h1] at hs
      rw [World.cell?_setCells_out _ _ _ _ _ (fun _ _ => Or.inl h1)]
      exact h.cell k s hs
    · rw [if_neg h1] at hs
      by_cases h2 : k < o + ys.length
      · rw [if_pos h2] at hs
        have hj : k - o < (ys.map (Value.int .u8)).length := by rw [List.length_map]; omega
        have e := World.cell?_setCells_in g (ys.map (Value.int .u8)) o w (fun j hj => h.some_ (by rw [List.length_map] at hj; omega)) (k - o) hj
        rw [show o + (k - o) = k by omega] at e
        rw [e]
        obtain ⟨hk, e2⟩ := List.getElem?_eq_some_iff.1 hs
        rw [List.getElem_map, e2]
      · rw [if_neg h2] at hs
        rw [World.cell?_setCells_out _ _ _ _ _ (fun _ _ => Or.inr (by rw [List.length_map]; show o + ys.length ≤ k; omega))]
        exact h.cell k s hs
  · rw [length_splice _ _ _ ho] at hk
    rw [World.frozen?_setCells]
    exact h.free k hk

/-! ### How Go's own words run -/
theorem slice31 : Tryd.prog.underlying 25 = some (.slice 5) := by kernel_rfl
theorem one5 : (Tryd.prog.info? 5).map (·.size) = some 1 := by kernel_rfl

/-- copy(..) of bytes into a block that may be written: all is read ahead of what is laid. -/
theorem copy_run {w : World} {g : Nat} {xs : List Int} (R : Row w g xs) {at_ o dLen dCap : Nat} {a : Option Addr} {sLen sCap B : Nat} {ys : List Int} (hy : Bytes w B a sLen ys) {k : Nat} (hk : k = Nat.min sLen dLen) (hfit : at_ + k ≤ xs.length) (ho : 0 < dLen → o = at_) :
    ∃ w', (∀ ty, (Builtin.copy_ #[25, 25] ty #[.slice (some ⟨g, o, none⟩) dLen dCap, .slice a sLen sCap]).run Tryd.prog w = .ok (.int .i64 (k : Int)) w') ∧ Row w' g (splice xs at_ (ys.take k)) ∧ But (· = g) w w' := by
  have hks : k ≤ sLen := by rw [hk]; exact Nat.min_le_left _ _
  have hkd : k ≤ dLen := by rw [hk]; exact Nat.min_le_right _ _
  by_cases h0 : k = 0
  · subst h0
    refine ⟨w, fun ty => run_copy_none w _ _ ty _ _ _ _ _ _ _ slice31 one5 hk.symm, ?_, But.refl _ _⟩
    rw [List.take_zero, splice_nil _ _ (by omega)]
    exact R
  · have hl : (ys.take k).length = k := by rw [List.length_take, hy.len]; omega
    obtain ⟨b, p, rfl, hb, hc⟩ := hy.head (by omega)
    obtain rfl := ho (by omega)
    refine ⟨w.setCells g o ((ys.take k).map (Value.int .u8)), fun ty => ?_, R.lay (by rw [hl]; exact hfit) (hy.fit.take k), But.setCells (a := w) _ _ (But.refl _ _) (fun _ => rfl)⟩
    have := run_copy_cells (P := Tryd.prog) w 25 25 ty 5 g o dLen dCap ⟨b, p, none⟩ sLen sCap ((ys.take k).map (Value.int .u8)) slice31 one5 (by rw [List.length_map, hl]; exact hk)
      (fun j v hv => by
        rw [List.getElem?_map] at hv
        cases hx : (ys.take k)[j]? with
        | none => rw [hx] at hv; simp at hv
        | some x =>
          rw [hx] at hv
          simp at hv
          subst hv
          rw [List.getElem?_take] at hx
          split at hx
          · have := hc j x hx
            by_cases h0 : j = 0
            · subst h0; simpa [Addr.add] using this
            · simpa [Addr.add, h0] using this
          · cases hx)
      (fun j hj => R.some_ (by rw [List.length_map, hl] at hj; omega)) (fun j hj => R.free _ (by rw [List.length_map, hl] at hj; omega))
      (fun v hv => by obtain ⟨x, _, rfl⟩ := List.mem_map.1 hv; rfl)
    rw [this, List.length_map, hl]
    rfl
/-- clear(..) of bytes. -/
theorem clear_run {w : World} {g : Nat} {xs : List Int} (R : Row w g xs) {at_ o n c : Nat} (hfit : at_ + n ≤ xs.length) (ho : 0 < n → o = at_) :
    ∃ w', (∀ ty, (Builtin.clear_ #[25] ty #[.slice (some ⟨g, o, none⟩) n c]).run Tryd.prog w = .ok (.tuple #[]) w') ∧ Row w' g (splice xs at_ (List.replicate n 0)) ∧ But (· = g) w w' := by
  by_cases h0 : n = 0
  · subst h0
    refine ⟨w, fun ty => by kernel_rfl, ?_, But.refl _ _⟩
    rw [List.replicate_zero, splice_nil _ _ (by omega)]
    exact R
  · obtain rfl := ho (by omega)
    refine ⟨w.setCells g o ((List.replicate n (0 : Int)).map (Value.int .u8)), fun ty => ?_, R.lay (by rw [List.length_replicate]; exact hfit) (Byt.replicate (by omega) (by omega) n), But.setCells (a := w) _ _ (But.refl _ _) (fun _ => rfl)⟩
    rw [List.map_replicate]
    exact Lib.run_clear_slice w 25 5 ty (.int .u8 0) slice31 (fun v => by kernel_rfl) rfl rfl g o n c (by omega) (fun j hj => R.some_ (by omega)) (fun j hj => R.free _ (by omega))

/-- n bytes 0, as make lays them. -/
def zeros (n : Nat) : Obj := .cells (madeCells #[.int .u8 0] n) 5
theorem make_run (n : Nat) (hn : n ≤ 4194304) (v : World) :
    (Instr.makeSlice 25 (.int .i64 (n : Int)) (.int .i64 (n : Int))).run Tryd.prog v = .ok (.slice (some ⟨v.heap.size, 0, none⟩) n n) (v.alloc (zeros n)) := by
  obtain ⟨i, hi, hz, hs, hb⟩ : ∃ i, Tryd.prog.info? 5 = some i ∧ i.zero = some (.int .u8 0) ∧ i.size = 1 ∧ i.bytes = 1 := ⟨_, rfl, by kernel_rfl, by kernel_rfl, by kernel_rfl⟩
  rw [run_make v 25 5 i (.int .u8 0) slice31 hi hz .i64 .i64 n n (by omega) (by omega) (by rw [hb]; omega) (by omega)]
  simp [hs, zeros, Value.cells]
theorem zeros_row (w : World) (n : Nat) (hn : n ≤ 4194304) : Row (w.alloc (zeros n)) w.heap.size (List.replicate n 0) := by
  have hh : (w.alloc (zeros n)).heap[w.heap.size]? = some (zeros n) := by simp only [World.alloc, Array.getElem?_push, if_true]
  refine ⟨fun k s hs => ?_, fun k hk => ?_, Byt.replicate (by omega) (by omega) n, by simp, by rw [List.length_replicate]; exact hn⟩
  · obtain ⟨hk, e⟩ := List.getElem?_eq_some_iff.1 hs
    rw [List.length_replicate] at hk
    rw [List.getElem_replicate] at e
    subst e
    rw [World.cell?, hh]
    simp [zeros, madeCells, hk, Nat.mod_one]
  · rw [World.frozen?, hh]
    simp [zeros]

/-- string(..) of bytes. -/
theorem string_run {w : World} {B n c : Nat} {a : Option Addr} {xs : List Int} (h : Bytes w B a n xs) : (convert 25 9 (.slice a n c)).run Tryd.prog w = .ok (.string (strOfNums xs)) w := by
  have hs : Tryd.prog.underlying 9 = some .string := by kernel_rfl
  have he : Tryd.prog.underlying 5 = some (.int .u8) := by kernel_rfl
  by_cases h0 : n = 0
  · subst h0
    obtain rfl := h.eq_nil
    cases a with
    | none => exact run_convert_bytes_nil w 25 5 slice31 he 0 c 9 hs
    | some a =>
      rw [run_convert_bytes_string w 25 9 5 _ 0 c slice31 he hs, run_bytesToString w a 0 c [] (by simpa using run_loadCells_list (P := Tryd.prog) w a [] (by simp))]
      rfl
  · obtain ⟨b, o, rfl, _, hc⟩ := h.head (by omega)
    refine run_convert_bytes_arg w 25 5 slice31 he b o n c xs h.len (fun i hi => ?_) 9 hs
    have hx : xs[i]? = some (xs[i]'(by rw [h.len]; exact hi)) := List.getElem?_eq_getElem _
    rw [hc i _ hx, List.getD_eq_getElem?_getD, hx]
    rfl

/-- 'l[i:i+k]' runs so. -/
theorem cut_lh {b o n c i k : Nat} (hk : i + k ≤ c) :
    ∃ o' c', (0 < k → o' = o + i) ∧ k ≤ c' ∧ ∀ v, (Instr.sliceAt 25 (.slice (some ⟨b, o, none⟩) n c) (some (.int .i64 (i : Int))) (some (.int .i64 ((i : Int) + (k : Int)))) none).run Tryd.prog v = .ok (.slice (some ⟨b, o', none⟩) k c') v := by
  have hu : Tryd.prog.underlying 25 = some (.slice (Tryd.prog.elem 25)) := by kernel_rfl
  have hs : ∀ v, (sizeOf (Tryd.prog.elem 25)).run Tryd.prog v = .ok 1 v := fun v => by kernel_rfl
  have run : ∀ v, (Instr.sliceAt 25 (.slice (some ⟨b, o, none⟩) n c) (some (.int .i64 (i : Int))) (some (.int .i64 ((i : Int) + (k : Int)))) none).run Tryd.prog v = .ok (sliced (some ⟨b, o, none⟩) i (i + k) c 1) v := by
    intro v
    rw [run_sliceAt_slice _ _ _ _ _ _ hu, run_slice_lh _ _ _ _ _ hu _ _ _ _ (by omega) (by omega) (by omega), hs]
    simp [Result.andThen, show ((i : Int) + (k : Int)).toNat = i + k by omega]
  by_cases hc : c = i
  · exact ⟨o, c - i, fun h => by omega, by omega, fun v => (run v).trans (by simp [sliced, hc])⟩
  · refine ⟨o + i, c - i, fun _ => rfl, by omega, fun v => (run v).trans ?_⟩
    by_cases h0 : i = 0
    · subst h0; simp [sliced, Addr.add]
    · simp [sliced, hc, Addr.add, h0]
/-- 'l[i:]' runs so. -/
theorem cut_l {b o n c i : Nat} (hi : i ≤ n) (hnc : n ≤ c) :
    ∃ o' c', (0 < n - i → o' = o + i) ∧ n - i ≤ c' ∧ ∀ v, (Instr.sliceAt 25 (.slice (some ⟨b, o, none⟩) n c) (some (.int .i64 (i : Int))) none none).run Tryd.prog v = .ok (.slice (some ⟨b, o', none⟩) (n - i) c') v := by
  have hu : Tryd.prog.underlying 25 = some (.slice (Tryd.prog.elem 25)) := by kernel_rfl
  have hs : ∀ v, (sizeOf (Tryd.prog.elem 25)).run Tryd.prog v = .ok 1 v := fun v => by kernel_rfl
  have run : ∀ v, (Instr.sliceAt 25 (.slice (some ⟨b, o, none⟩) n c) (some (.int .i64 (i : Int))) none none).run Tryd.prog v = .ok (sliced (some ⟨b, o, none⟩) i n c 1) v := by
    intro v
    rw [run_sliceAt_slice _ _ _ _ _ _ hu, run_slice_l _ _ _ _ _ hu _ _ (by omega) (by omega), hs]
    simp [Result.andThen]
  by_cases hc : c = i
  · exact ⟨o, c - i, fun h => by omega, by omega, fun v => (run v).trans (by simp [sliced, hc])⟩
  · refine ⟨o + i, c - i, fun _ => rfl, by omega, fun v => (run v).trans ?_⟩
    by_cases h0 : i = 0
    · subst h0; simp [sliced, Addr.add]
    · simp [sliced, hc, Addr.add, h0]
/-- 'l[:k]' runs so. -/
theorem cut_h {b o n c k : Nat} (hk : k ≤ c) (v : World) :
    (Instr.sliceAt 25 (.slice (some ⟨b, o, none⟩) n c) none (some (.int .i64 (k : Int))) none).run Tryd.prog v = .ok (.slice (some ⟨b, o, none⟩) k c) v := by
  have hu : Tryd.prog.underlying 25 = some (.slice (Tryd.prog.elem 25)) := by kernel_rfl
  have hs : ∀ v, (sizeOf (Tryd.prog.elem 25)).run Tryd.prog v = .ok 1 v := fun v => by kernel_rfl
  rw [run_sliceAt_slice _ _ _ _ _ _ hu, run_slice_h _ _ _ _ _ hu _ _ (by omega) (by omega), hs]
  simp [Result.andThen, sliced, Addr.add]
end Go.Proofs.YtjnnblcafocdoaaDoor
