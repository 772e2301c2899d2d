/-
  Operations in memory (api.Op): as plain records, each with its bytes; a row of the call's own of them, and appends to it; opened out of an argument. No statement about a Go function.
-/
import Derived.Test.YtjnnblcafocdoaaDoorOpNum
import Derived.Test.YtjnnblcafocdoaaDoorRecs
import Derived.Test.YtjnnblcafocdoaaDoorBytesField
import Derived.Test.YtjnnblcafocdoaaDoorBytesApp
import Derived.Test.YtjnnblcafocdoaaDoorCells
namespace Go.Proofs.YtjnnblcafocdoaaDoor
open Go.ChangeShapes Go.WideShapes Go.ChangeAt Go.RowKit Go.Deep

/-- An operation as it lies in memory. -/
structure Ov where
  kind : Int
  h : Int
  a : Int
  b : Int
  ba : Option Addr
  bn : Nat
  bc : Nat
  bs : List Int
instance : Inhabited Ov := ⟨⟨0, 0, 0, 0, none, 0, 0, []⟩⟩
def Ov.op (u : Ov) : Opn := ⟨u.kind, u.h, u.a, u.b, u.bs⟩
def Ov.cells (u : Ov) : List Value := [.int .i64 u.kind, .int .i64 u.h, .int .i64 u.a, .int .i64 u.b, .slice u.ba u.bn u.bc]
structure Ov.ok (u : Ov) (w : World) (B : Nat) : Prop where
  kind : int64 u.kind
  h : int64 u.h
  a : int64 u.a
  b : int64 u.b
  bytes : Bytes w B u.ba u.bn u.bs
  cap : u.bn ≤ u.bc
theorem Ov.ok.below {u : Ov} {w w' : World} {B : Nat} (h : u.ok w B) (hb : Below B w w') : u.ok w' B := ⟨h.kind, h.h, h.a, h.b, h.bytes.below hb, h.cap⟩
theorem Ov.ok.more {u : Ov} {w : World} {B B' : Nat} (h : u.ok w B) (hB : B ≤ B') : u.ok w B' := ⟨h.kind, h.h, h.a, h.b, h.bytes.more hB, h.cap⟩
theorem Ov.ok.fit {u : Ov} {w : World} {B : Nat} (h : u.ok w B) : u.op.Fit := ⟨h.kind, h.h, h.a, h.b, h.bytes.fit⟩
theorem Ov.ok.len {u : Ov} {w : World} {B : Nat} (h : u.ok w B) : u.op.bs.length = u.bn := h.bytes.len
/-- The slice value '.slice a n c' holds the n operations us, below block B. -/
def Ops (w : World) (B : Nat) (a : Option Addr) (n : Nat) (us : List Ov) : Prop := Recs Ov.cells Ov.ok 5 w B a n us
section
variable {w w' : World} {B B' n : Nat} {a : Option Addr} {us : List Ov}
theorem Ops.below (h : Ops w B a n us) (hb : Below B w w') : Ops w' B a n us := Recs.below h (fun _ q => q.below hb) hb
theorem Ops.more (h : Ops w B a n us) (hB : B ≤ B') : Ops w B' a n us :=
  ⟨h.len, h.max, fun i u hu => (h.ok i u hu).more hB, fun hn => by
    obtain ⟨b, o, e, hb, hc⟩ := h.head hn
    exact ⟨b, o, e, by omega, hc⟩⟩
theorem Ops.on (h : Ops w w.heap.size a n us) (hb : Below w.heap.size w w') : Ops w' w'.heap.size a n us := (h.below hb).more hb.size
theorem Ops.empty (w : World) (B : Nat) (a : Option Addr) : Ops w B a 0 [] := ⟨rfl, by omega, fun i u hu => by simp at hu, fun h => absurd h (by omega)⟩
theorem Ops.fit (h : Ops w B a n us) : ∀ o ∈ us.map Ov.op, o.Fit := by
  intro o ho
  obtain ⟨u, hu, rfl⟩ := List.mem_map.1 ho
  obtain ⟨i, hi⟩ := List.mem_iff_getElem?.1 hu
  exact (h.ok i u hi).fit
/-- The five cells of an operation. -/
theorem Ops.at5 (h : Ops w B a n us) {i : Nat} {u : Ov} (hu : us[i]? = some u) : ∃ b o, a = some ⟨b, o, none⟩ ∧ b < B ∧ w.cell? ⟨b, o + i * 5, none⟩ = some (.int .i64 u.kind) ∧ w.cell? ⟨b, o + i * 5 + 1, none⟩ = some (.int .i64 u.h) ∧ w.cell? ⟨b, o + i * 5 + 2, none⟩ = some (.int .i64 u.a) ∧ w.cell? ⟨b, o + i * 5 + 3, none⟩ = some (.int .i64 u.b) ∧ w.cell? ⟨b, o + i * 5 + 4, none⟩ = some (.slice u.ba u.bn u.bc) := by
  have hi := (List.getElem?_eq_some_iff.1 hu).1
  rw [h.len] at hi
  obtain ⟨b, o, e, hB, hc⟩ := h.head (by omega)
  exact ⟨b, o, e, hB, hc i u hu 0 _ rfl, hc i u hu 1 _ rfl, hc i u hu 2 _ rfl, hc i u hu 3 _ rfl, hc i u hu 4 _ rfl⟩
end

/-! ### Out of an argument -/
section
variable {H : Type} {enc : TypeId × Value → H} {w : World}
theorem op_cells (cs : List Value) (fuel : Nat) (x : DataW H × List MemPlace) (h : DataW.trod enc Tryd.prog w 0 (fun _ => true) true fuel 40 cs = some x) : ∃ u : Ov, cs = u.cells ∧ u.ok w w.heap.size := by
  obtain ⟨hl, hf⟩ := fields_of Tryd.underlying40 (by kernel_rfl) (by kernel_rfl) h
  match cs, hl with
  | [v0, v1, v2, v3, v4], _ =>
    obtain ⟨u0, _, n0, e0, t0⟩ := hf 0 _ rfl
    obtain ⟨u1, _, n1, e1, t1⟩ := hf 1 _ rfl
    obtain ⟨u2, _, n2, e2, t2⟩ := hf 2 _ rfl
    obtain ⟨u3, _, n3, e3, t3⟩ := hf 3 _ rfl
    obtain ⟨u4, _, n4, e4, t4⟩ := hf 4 _ rfl
    simp at e0 e1 e2 e3 e4
    subst e0 e1 e2 e3 e4
    obtain ⟨a0, rfl, f0⟩ := i64_field t0
    obtain ⟨a1, rfl, f1⟩ := i64_field t1
    obtain ⟨a2, rfl, f2⟩ := i64_field t2
    obtain ⟨a3, rfl, f3⟩ := i64_field t3
    obtain ⟨ba, bn, bc, bs, rfl, hc, f4⟩ := bytes_field t4
    exact ⟨⟨a0, a1, a2, a3, ba, bn, bc, bs⟩, rfl, f0, f1, f2, f3, f4, hc⟩
theorem ops_field {n : Nat} {u : Value} {y : DataW H × List MemPlace} (h : DataW.trod enc Tryd.prog w 0 (fun _ => true) true n 22 [u] = some y) : ∃ (a : Option Addr) (len cap : Nat) (us : List Ov), u = .slice a len cap ∧ len ≤ cap ∧ Ops w w.heap.size a len us :=
  recs_field Tryd.underlying22 (k := 5) (by kernel_rfl) (by decide) (fun _ => rfl) op_cells h
end

/-! ### A row of the call's own -/
/-- The cells of operations, one behind the other. -/
def flatO (us : List Ov) : List Value := us.flatMap Ov.cells
theorem flatO_len (us : List Ov) : (flatO us).length = us.length * 5 := by
  unfold flatO
  induction us with
  | nil => rfl
  | cons u r ih => rw [List.flatMap_cons, List.length_append, ih, List.length_cons]; simp [Ov.cells]; omega
theorem flatO_app (us vs : List Ov) : flatO (us ++ vs) = flatO us ++ flatO vs := List.flatMap_append
theorem flatO_cells (us : List Ov) : ∀ v ∈ flatO us, v.oneCell' = true := fun v hv => by
  obtain ⟨u, _, hu⟩ := List.mem_flatMap.1 hv
  simp [Ov.cells] at hu
  rcases hu with rfl | rfl | rfl | rfl | rfl <;> rfl
theorem flatO_at (us : List Ov) : ∀ (i : Nat) (u : Ov) (j : Nat) (v : Value), us[i]? = some u → u.cells[j]? = some v → (flatO us)[i * 5 + j]? = some v := by
  induction us with
  | nil => intro i u j v h; simp at h
  | cons a r ih =>
    intro i u j v hu hv
    have hj : j < 5 := (List.getElem?_eq_some_iff.1 hv).1
    show (a.cells ++ flatO r)[i * 5 + j]? = some v
    match i, hu with
    | 0, hu =>
      simp at hu
      subst hu
      rw [Nat.zero_mul, Nat.zero_add, List.getElem?_append_left hj]
      exact hv
    | i + 1, hu =>
      rw [List.getElem?_cons_succ] at hu
      have hl : a.cells.length = 5 := rfl
      rw [List.getElem?_append_right (by omega), hl, show (i + 1) * 5 + j - 5 = i * 5 + j by omega]
      exact ih i u j v hu hv
theorem flatO_of (us : List Ov) : ∀ (k : Nat) (v : Value), (flatO us)[k]? = some v → ∃ u, us[k / 5]? = some u ∧ u.cells[k % 5]? = some v := by
  intro k v hv
  have hk := (List.getElem?_eq_some_iff.1 hv).1
  rw [flatO_len] at hk
  have hd : k / 5 < us.length := by omega
  have hu : us[k / 5]? = some us[k / 5] := List.getElem?_eq_getElem hd
  have hl : k % 5 < (us[k / 5]).cells.length := Nat.mod_lt k (by decide)
  have hc : (us[k / 5]).cells[k % 5]? = some ((us[k / 5]).cells[k % 5]) := List.getElem?_eq_getElem hl
  have := flatO_at us _ _ _ _ hu hc
  rw [show k / 5 * 5 + k % 5 = k by omega, hv] at this
  exact ⟨_, hu, by rw [hc]; exact this.symm⟩
theorem infoOp : (Tryd.prog.info? 40).map (fun i => (i.zero, i.size, i.bytes)) = some (some (.agg #[.int .i64 0, .int .i64 0, .int .i64 0, .int .i64 0, .slice none 0 0]), 5, 56) := by kernel_rfl
/-- A row of operations; nil, if there are none. -/
def OwnO (w : World) (base : Nat) (v : Value) (n : Nat) (us : List Ov) : Prop := w.ownsRow base 40 5 v n (flatO us)
section
variable {w w' : World} {base n : Nat} {v : Value} {us : List Ov}
theorem OwnO.nil (w : World) (base : Nat) : OwnO w base (.slice none 0 0) 0 [] := ⟨rfl, .inl ⟨rfl, rfl⟩⟩
theorem OwnO.len (h : OwnO w base v n us) : us.length = n := by have := h.1; rw [flatO_len] at this; omega
theorem OwnO.on (h : OwnO w base v n us) (hb : Below w.heap.size w w') : OwnO w' base v n us :=
  World.ownsRow.kept (row := none) h ⟨hb.os, hb.tape, hb.output, hb.size, fun k hk _ => hb.block k hk⟩ (by cases v.ownBlock <;> simp)
theorem OwnO.form (h : OwnO w base v n us) : ∃ a c, v = .slice a n c ∧ n ≤ c ∧ (a = none ∨ ∃ g, a = some ⟨g, 0, none⟩ ∧ base ≤ g ∧ g < w.heap.size) := by
  obtain ⟨h1, ⟨rfl, rfl⟩ | ⟨g, cap, cur, hv, hb, hg, hc, _⟩⟩ := h
  · exact ⟨none, 0, rfl, by omega, .inl rfl⟩
  · exact ⟨_, cap, hv, hc, .inr ⟨g, rfl, hb, (Array.getElem?_eq_some_iff.1 hg).1⟩⟩
theorem OwnO.ops (h : OwnO w base v n us) (hok : ∀ u ∈ us, u.ok w w.heap.size) (hm : n ≤ 9223372036854775807) : ∃ a c, v = .slice a n c ∧ n ≤ c ∧ Ops w w.heap.size a n us := by
  have hl := h.len
  obtain ⟨a, c, rfl, hc, hw⟩ := h.form
  refine ⟨a, c, rfl, hc, hl, hm, fun i u hu => hok u (List.mem_of_getElem? hu), fun hn => ?_⟩
  rcases hw with rfl | ⟨g, rfl, _, hg⟩
  · rcases h.2 with ⟨e, rfl⟩ | ⟨_, _, _, e, _⟩
    · omega
    · cases e
  · refine ⟨g, 0, rfl, hg, fun i u hu j v hv => ?_⟩
    have hi := (List.getElem?_eq_some_iff.1 hu).1
    have hj : j < 5 := (List.getElem?_eq_some_iff.1 hv).1
    have := World.ownsRow.cellAt h (i * 5 + j) (by omega)
    rw [flatO_at us i u j v hu hv] at this
    rw [Nat.zero_add]
    exact this
/-- One operation more, that was just laid in block g. -/
theorem app_op {u : Ov} {g c : Nat} (hown : OwnO w base v n us) (hu : Cs w g u.cells) (hb : base ≤ w.heap.size) (hm : n ≤ 100000000) (ty : TypeId) :
    ∃ v' w', (Builtin.append_ #[22, 22] ty #[v, .slice (some ⟨g, 0, none⟩) 1 c]).run Tryd.prog w = .ok v' w' ∧ OwnO w' base v' (n + 1) (us ++ [u]) ∧ Below base w w' ∧ w.grownBy w' v.ownBlock := by
  obtain ⟨i0, hi, hz0, hz1, hz2⟩ := info_parts infoOp
  obtain ⟨v', w', hr, h2, h3, _, _⟩ := run_append_own_at (P := Tryd.prog) w base 22 ty 40 i0 (.agg #[.int .i64 0, .int .i64 0, .int .i64 0, .int .i64 0, .slice none 0 0]) 5 56 Tryd.underlying22 hi hz0 hz1 hz2 rfl (by decide) v n (flatO us) hown ⟨g, 0, none⟩ 1 c (flatO [u]) (by rw [flatO_len]; rfl)
    (fun j x hx => by
      have := hu.cell j x (by simpa [flatO] using hx)
      by_cases h0 : j = 0
      · subst h0; simpa [Addr.add] using this
      · simpa [Addr.add, h0] using this)
    (flatO_cells [u]) (by unfold maxLen; omega) (by omega) hb
  rw [← flatO_app] at h2
  refine ⟨v', w', hr, h2, Below.grown (Below.refl _ _) h3 hb (fun k hk => ?_), h3⟩
  rcases hown.form with ⟨a, c', rfl, _, rfl | ⟨g, rfl, hg, _⟩⟩
  · simp [Value.ownBlock] at hk
  · simp [Value.ownBlock] at hk
    omega
end
end Go.Proofs.YtjnnblcafocdoaaDoor
