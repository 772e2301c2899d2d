/-
  What Take tells, as ways; the first bytes of a slice, nil or not. No statement about a Go function.
-/
import Derived.Test.YtjnnblcafocdoaaDoorOpRow
namespace Go.Proofs.YtjnnblcafocdoaaDoor
open Go.ChangeShapes Go.WideShapes Go.ChangeAt Go.RowKit

theorem take_all {b : List Int} {l : List Opn} (h : takeL b = (l, none)) : takeOut b = (l, 0, 0) := by unfold takeOut; rw [h]
theorem put_all {l : List Opn} (h : AllO l) : putOut l = (putL l, 0) := if_pos h.may
theorem all_len {l : List Opn} {b : List Int} (h : putL l = b) : 27 * l.length ≤ b.length := by rw [← h]; exact putL_len l
/-- All of them are operations; or the first p bytes are, and no more. -/
theorem take_ways {b : List Int} (hb : Byt b) : (∃ l, takeOut b = (l, 0, 0) ∧ AllO l ∧ putL l = b ∧ putOut l = (b, 0) ∧ 27 * l.length ≤ b.length) ∨
    ∃ (p : Nat) (l : List Opn), takeOut b = ([], (p : Int), 2) ∧ p < b.length ∧ takeOut (b.take p) = (l, 0, 0) ∧ AllO l ∧ putL l = b.take p ∧ putOut l = (b.take p, 0) ∧ 27 * l.length ≤ p := by
  obtain ⟨h1, h2, h3⟩ := take_spec hb
  cases h : (takeL b).2 with
  | none =>
    have e := h2 h
    refine .inl ⟨(takeL b).1, take_all (by rw [← h]), h1, e, by rw [put_all h1, e], ?_⟩
    have := all_len e
    exact this
  | some p =>
    obtain ⟨hp, e⟩ := h3 p h
    refine .inr ⟨p, (takeL b).1, by unfold takeOut; rw [h], hp, take_all (take_upto hb h), h1, e, by rw [put_all h1, e], ?_⟩
    have := all_len e
    rw [List.length_take] at this
    omega
/-- 'b[:k]', of a slice that may be nil. -/
theorem cut_first {a : Option Addr} {n c k : Nat} (hk : k ≤ c) (v : World) : (Instr.sliceAt 25 (.slice a n c) none (some (.int .i64 (k : Int))) none).run Tryd.prog v = .ok (.slice a k c) v := by
  have hu : Tryd.prog.underlying 25 = some (.slice (Tryd.prog.elem 25)) := by kernel_rfl
  have hs : ∀ v, (sizeOf (Tryd.prog.elem 25)).run Tryd.prog v = .ok 1 v := fun v => by kernel_rfl
  rw [run_sliceAt_slice _ _ _ _ _ _ hu, run_slice_h _ _ _ _ _ hu _ _ (by omega) (by omega), hs]
  cases a <;> simp [Result.andThen, sliced, Addr.add]
theorem Bytes.first {w : World} {B n k : Nat} {a : Option Addr} {b : List Int} (h : Bytes w B a n b) (hk : k ≤ n) : Bytes w B a k (b.take k) := by
  have hl := h.len
  have hm := h.max
  refine ⟨by rw [List.length_take]; omega, by omega, h.fit.take k, fun h0 => ?_⟩
  obtain ⟨bb, o, e, hb, hc⟩ := h.head (by omega)
  refine ⟨bb, o, e, hb, fun j s hs => ?_⟩
  rw [List.getElem?_take] at hs
  split at hs
  · exact hc j s hs
  · cases hs
end Go.Proofs.YtjnnblcafocdoaaDoor
