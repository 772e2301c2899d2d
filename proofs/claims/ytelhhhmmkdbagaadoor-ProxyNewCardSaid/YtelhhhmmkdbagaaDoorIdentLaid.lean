/-
  What the rows of package ident list of its variable 'bounds', as the word 'Bd'; and a world in which it stands so.
-/
import Derived.Test.YtelhhhmmkdbagaaDoorIdent
import Derived.Test.YtelhhhmmkdbagaaDoorFieldsOpen
import Derived.Deep.DeepHandedRow
import Derived.Lib.LaidTab
namespace Go.Proofs.YtelhhhmmkdbagaaDoor
open Go.ChangeShapes Go.WideShapes Go.ChangeAt Go.RowKit

/-- A struct of two ints that reads as two numbers holds them. -/
theorem pair_cells {H : Type} {enc : TypeId × Value → H} {w : World} {base : Nat} {sp : Nat → Bool} {held : Bool} {fuel : Nat} {v0 v1 : Value} {x y : Int} {p : List MemPlace}
    (h : DataW.trod enc Tryd.prog w base sp held fuel 77 [v0, v1] = some (.agg [.lit (.int .i64 x), .lit (.int .i64 y)], p)) : v0 = .int .i64 x ∧ v1 = .int .i64 y := by
  obtain ⟨xs, n, _, hx, _, hxl, hg⟩ := DataW.trod_struct Tryd.underlying77 h
  have hX : xs.map (·.1) = [.lit (.int .i64 x), .lit (.int .i64 y)] := by
    have := congrArg Prod.fst hx
    simp at this
    exact this.symm
  have h0 := hg 0 _ rfl
  have h1 := hg 1 _ rfl
  have k3 : Tryd.prog.cellsOf 3 = 1 := by kernel_rfl
  match xs, hxl, hX with
  | [a, b], _, hX =>
    simp [k3] at h0 h1 hX
    obtain ⟨m0, e0, f0, _⟩ := DataW.trod_int Tryd.underlying3 h0
    obtain ⟨m1, e1, f1, _⟩ := DataW.trod_int Tryd.underlying3 h1
    subst f0 f1
    simp at e0 e1 hX
    obtain ⟨rfl, rfl⟩ := hX
    exact ⟨e0, e1⟩

/-- What the rows' list gives. -/
theorem bd_of {W : World} (h : laidMetH Tryd.prog [("almery/ident.bounds", Rows.laid_almery_ident_bounds)] W) : Bd W := by
  have hg0 : Tryd.prog.globalNamed "almery/ident.bounds" = some 0 := by kernel_rfl
  have ht0 : (Tryd.prog.globals[0]?).map (·.type) = some 78 := by kernel_rfl
  have h' : laidMet Tryd.prog [("almery/ident.bounds", Rows.laid_almery_ident_bounds)] W := h
  obtain ⟨ps, ⟨g, t, cs, fuel, p, q, hg, ht, hvar, hd, _, _⟩, _⟩ := h'
  obtain rfl := Option.some.inj (hg0.symm.trans hg)
  obtain rfl := Option.some.inj (ht0.symm.trans ht)
  have hcell := fun off => World.var?_cell hg0 hvar off
  obtain ⟨xs, m, _, hx, hlen, hxl, hel⟩ := DataW.trod_array Tryd.underlying78 hd
  have k42 : Tryd.prog.cellsOf 78 = 4 := by kernel_rfl
  have k41 : Tryd.prog.cellsOf 77 = 2 := by kernel_rfl
  have hX : xs.map (·.1) = [.agg [.lit (.int .i64 0), .lit (.int .i64 4095)], .agg [.lit (.int .i64 1), .lit (.int .i64 1023)]] := by
    have := congrArg Prod.fst hx
    simp [Rows.laid_almery_ident_bounds] at this
    exact this.symm
  rw [k42] at hlen
  have e0 := hel 0 (by omega)
  have e1 := hel 1 (by omega)
  rw [k41] at e0 e1
  obtain ⟨l⟩ := cs
  match l, hlen, xs, hxl, hX with
  | [v0, v1, v2, v3], _, [a, b], _, hX =>
    simp at e0 e1 hX
    obtain ⟨f0, f1⟩ := hX
    obtain ⟨a1, a2⟩ := a
    obtain ⟨b1, b2⟩ := b
    simp at f0 f1
    subst f0 f1
    obtain ⟨r0, r1⟩ := pair_cells e0
    obtain ⟨r2, r3⟩ := pair_cells e1
    subst r0 r1 r2 r3
    exact ⟨hcell 0, hcell 1, hcell 2, hcell 3⟩

/-- A world for the witness: the settled one, the bounds (block 0) holding what their initialiser lays. -/
noncomputable def laidWorld (os : Os) : World :=
  { World.holding Tryd.prog os ⟨#[], #[], []⟩ with heap := (World.holding Tryd.prog os ⟨#[], #[], []⟩).heap.modify 0 fun
      | .cells _ t frozen => .cells #[.int .i64 0, .int .i64 4095, .int .i64 1, .int .i64 1023] t frozen
      | o => o }
end Go.Proofs.YtelhhhmmkdbagaaDoor
