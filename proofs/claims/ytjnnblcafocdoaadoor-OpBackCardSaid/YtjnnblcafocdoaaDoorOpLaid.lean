/-
  What the rows of package op list of its variable 'widths', as the word 'Wd'; and a world in which it stands so.
-/
import Derived.Test.YtjnnblcafocdoaaDoorOpWide
import Derived.Test.YtjnnblcafocdoaaDoorFieldsOpen
import Derived.Deep.DeepHandedRow
import Derived.Lib.LaidTab
import Derived.Test.YtjnnblcafocdoaaDoorRows
namespace Go.Proofs.YtjnnblcafocdoaaDoor
open Go.ChangeShapes Go.WideShapes Go.ChangeAt Go.RowKit

/-- What the rows' list gives. -/
theorem wd_of {W : World} (h : laidMetH Tryd.prog [("almery/op.widths", Rows.laid_almery_op_widths)] W) : Wd W := by
  have hg0 : Tryd.prog.globalNamed "almery/op.widths" = some 0 := by kernel_rfl
  have ht0 : (Tryd.prog.globals[0]?).map (·.type) = some 41 := by kernel_rfl
  have h' : laidMet Tryd.prog [("almery/op.widths", Rows.laid_almery_op_widths)] W := h
  obtain ⟨ps, ⟨g, t, cs, fuel, p, q, hg, ht, hvar, hd, _, _⟩, _⟩ := h'
  obtain rfl := Option.some.inj (hg0.symm.trans hg)
  obtain rfl := Option.some.inj (ht0.symm.trans ht)
  have hcell := fun off => World.var?_cell hg0 hvar off
  obtain ⟨xs, m, _, hx, hlen, hxl, hel⟩ := DataW.trod_array Tryd.underlying41 hd
  have k5 : Tryd.prog.cellsOf 41 = 5 := by kernel_rfl
  have k1 : Tryd.prog.cellsOf 3 = 1 := by kernel_rfl
  have hX : xs.map (·.1) = [.lit (.int .i64 1), .lit (.int .i64 8), .lit (.int .i64 8), .lit (.int .i64 8), .lit (.int .i64 2)] := by
    have := congrArg Prod.fst hx
    simp [Rows.laid_almery_op_widths] at this
    exact this.symm
  rw [k5] at hlen
  have e0 := hel 0 (by omega)
  have e1 := hel 1 (by omega)
  have e2 := hel 2 (by omega)
  have e3 := hel 3 (by omega)
  have e4 := hel 4 (by omega)
  rw [k1] at e0 e1 e2 e3 e4
  obtain ⟨l⟩ := cs
  match l, hlen, xs, hxl, hX with
  | [v0, v1, v2, v3, v4], _, [a0, a1, a2, a3, a4], _, hX =>
    simp at e0 e1 e2 e3 e4 hX
    obtain ⟨f0, f1, f2, f3, f4⟩ := hX
    obtain ⟨a0, b0⟩ := a0
    obtain ⟨a1, b1⟩ := a1
    obtain ⟨a2, b2⟩ := a2
    obtain ⟨a3, b3⟩ := a3
    obtain ⟨a4, b4⟩ := a4
    simp at f0 f1 f2 f3 f4
    subst f0 f1 f2 f3 f4
    obtain ⟨n0, z0, r0, _⟩ := DataW.trod_int Tryd.underlying3 e0
    obtain ⟨n1, z1, r1, _⟩ := DataW.trod_int Tryd.underlying3 e1
    obtain ⟨n2, z2, r2, _⟩ := DataW.trod_int Tryd.underlying3 e2
    obtain ⟨n3, z3, r3, _⟩ := DataW.trod_int Tryd.underlying3 e3
    obtain ⟨n4, z4, r4, _⟩ := DataW.trod_int Tryd.underlying3 e4
    simp at z0 z1 z2 z3 z4 r0 r1 r2 r3 r4
    obtain ⟨rfl, _⟩ := r0
    obtain ⟨rfl, _⟩ := r1
    obtain ⟨rfl, _⟩ := r2
    obtain ⟨rfl, _⟩ := r3
    obtain ⟨rfl, _⟩ := r4
    subst z0 z1 z2 z3 z4
    exact ⟨hcell 0, hcell 1, hcell 2, hcell 3, hcell 4⟩

/-- A world for the witness: the settled one, the widths (block 0) holding what their initialiser lays. -/
noncomputable def laidWorld (os : Os) : World :=
  { World.holding Tryd.prog os ⟨#[], #[], []⟩ with heap := (World.holding Tryd.prog os ⟨#[], #[], []⟩).heap.modify 0 fun
      | .cells _ t frozen => .cells #[.int .i64 1, .int .i64 8, .int .i64 8, .int .i64 8, .int .i64 2] t frozen
      | o => o }
end Go.Proofs.YtjnnblcafocdoaaDoor
