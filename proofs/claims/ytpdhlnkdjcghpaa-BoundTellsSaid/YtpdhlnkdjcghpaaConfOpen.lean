/-
  A layout that comes in as an argument, opened: its numbers are ints of 64 bits, its slices read as lists. No statement about a Go function.
-/
import Derived.Test.YtpdhlnkdjcghpaaConfNum
import Derived.Deep.Fields
import Derived.Deep.Slices
import Derived.ChangeSame
import Derived.ShutString
import Derived.ChangeOld
import Derived.Below
namespace Go.Proofs.Ytpdhlnkdjcghpaa
open Go.ChangeShapes Go.WideShapes Go.ChangeAt Go.RowKit Go.Deep

section
variable {H : Type} {enc : TypeId × Value → H} {P : Program} {w : World} {base : Nat} {spare : Nat → Bool} {held : Bool}
/-- A struct by value, of whatever many fields of one cell each: field by field. -/
theorem open_fields {r : Reach} {b0 : Nat} {t : TypeId} {fs : Array Field} {v : Value} {d : DataW H} {p : List MemPlace} (hs : P.underlying t = some (.struct fs)) (hone : oneCellFields P fs = true) (hC : P.cellsOf t = fs.size)
    (hv : Value.okWide P w r b0 t v) (h : DataW.Trod enc P w base spare held t v d p) :
    ∃ cs : Array Value, v = .agg cs ∧ cs.size = fs.size ∧ ∀ (i : Nat) (f : Field), fs[i]? = some f → ∃ (u : Value) (y : DataW H × List MemPlace) (n : Nat), cs[i]? = some u ∧ DataW.trod enc P w base spare held n f.type [u] = some y := by
  obtain ⟨cs, rfl, hsz⟩ := okWide_struct hs hv
  obtain ⟨fuel, hf⟩ := h
  obtain ⟨xs, n, _, hx, hlen, hxl, hg⟩ := DataW.trod_struct hs hf
  have hsz' : cs.size = fs.size := hsz.trans hC
  refine ⟨cs, rfl, hsz', fun i f hi => ?_⟩
  obtain ⟨ho, hk⟩ := hone_of hone i f hi
  have hil : i < fs.size := (Array.getElem?_eq_some_iff.1 hi).1
  have h1 := hg i f hi
  rw [ho, hk] at h1
  have hc : (Value.agg cs).cells.toList = cs.toList := by simp [Value.cells]
  have hlt : i < (Value.agg cs).cells.toList.length := by rw [hc, Array.length_toList]; omega
  have hone' : ((Value.agg cs).cells.toList.drop i).take 1 = [(Value.agg cs).cells.toList[i]'hlt] := by
    rw [List.drop_eq_getElem_cons hlt]; rfl
  rw [hone'] at h1
  have hxs : xs[i]? = some (xs[i]'(by omega)) := List.getElem?_eq_getElem (by omega)
  refine ⟨_, _, n, ?_, h1.trans hxs⟩
  have : cs[i]? = some (cs[i]'(by omega)) := Array.getElem?_eq_getElem (by omega)
  rw [this]
  simp [Value.cells]
end


section
variable {H : Type} {enc : TypeId × Value → H} {w : World}
theorem int_field {n : Nat} {u : Value} {y : DataW H × List MemPlace} (h : DataW.trod enc Try.prog w 0 (fun _ => true) true n 3 [u] = some y) : ∃ a : Int, u = .int .i64 a ∧ Fit a := by
  obtain ⟨a, e, _, hw⟩ := DataW.trod_int Try.underlying3 h
  simp at e
  exact ⟨a, e, wf_i64 hw⟩
theorem ints_field {n : Nat} {u : Value} {y : DataW H × List MemPlace} (h : DataW.trod enc Try.prog w 0 (fun _ => true) true n 22 [u] = some y) : ∃ (a : Option Addr) (len cap : Nat) (xs : List Int), u = .slice a len cap ∧ len ≤ cap ∧ Ints w w.heap.size a len xs := by
  rcases open_ints Try.underlying22 Try.underlying3 (by kernel_rfl) h with ⟨hcs, _⟩ | ⟨x, l, c, zs, hcs, _, hl, hm, hz, _, hcell, hwz⟩
  · simp at hcs
    exact ⟨_, _, _, _, hcs, by omega, Ints.of_row (zs := []) (cap := 0) (.inl ⟨rfl, rfl, rfl, rfl⟩)⟩
  · simp at hcs
    exact ⟨_, _, _, _, hcs, hl, Ints.of_row (zs := zs) (cap := c) (.inr ⟨x, rfl, hl, hm, by simpa using hz, hcell, hwz⟩)⟩

/-- A layout that came in. -/
theorem open_conf {r : Reach} {b0 : Nat} {v : Value} {d : DataW H} {p : List MemPlace} (hv : Value.okWide Try.prog w r b0 24 v) (h : DataW.Trod enc Try.prog w 0 (fun _ => true) true 24 v d p) :
    ∃ c : Cf, v = (.agg #[.int .i64 c.size, .int .i64 c.pages, .slice c.ca c.cn c.cc, .slice c.ka c.kn c.kc, .int .i64 c.step, .int .i64 c.slots, .int .i64 c.gens, .int .i64 c.most]) ∧ c.Ok w w.heap.size ∧ c.cn ≤ c.cc ∧ c.kn ≤ c.kc := by
  obtain ⟨cs, rfl, hsz, hf⟩ := open_fields Try.underlying24 (by kernel_rfl) (by kernel_rfl) hv h
  obtain ⟨l⟩ := cs
  match l, hsz with
  | [v0, v1, v2, v3, v4, v5, v6, v7], _ =>
    obtain ⟨u0, _, n0, e0, t0⟩ := hf 0 _ rfl
    obtain ⟨u1, _, n1, e1, t1⟩ := hf 1 _ rfl
    obtain ⟨u2, _, n2, e2, t2⟩ := hf 2 _ rfl
    obtain ⟨u3, _, n3, e3, t3⟩ := hf 3 _ rfl
    obtain ⟨u4, _, n4, e4, t4⟩ := hf 4 _ rfl
    obtain ⟨u5, _, n5, e5, t5⟩ := hf 5 _ rfl
    obtain ⟨u6, _, n6, e6, t6⟩ := hf 6 _ rfl
    obtain ⟨u7, _, n7, e7, t7⟩ := hf 7 _ rfl
    simp at e0 e1 e2 e3 e4 e5 e6 e7
    subst e0 e1 e2 e3 e4 e5 e6 e7
    obtain ⟨a0, rfl, f0⟩ := int_field t0
    obtain ⟨a1, rfl, f1⟩ := int_field t1
    obtain ⟨ca, cn, cc, xs, rfl, hcc, i2⟩ := ints_field t2
    obtain ⟨ka, kn, kc, ks, rfl, hkc, i3⟩ := ints_field t3
    obtain ⟨a4, rfl, f4⟩ := int_field t4
    obtain ⟨a5, rfl, f5⟩ := int_field t5
    obtain ⟨a6, rfl, f6⟩ := int_field t6
    obtain ⟨a7, rfl, f7⟩ := int_field t7
    exact ⟨⟨a0, a1, ca, cn, cc, ka, kn, kc, a4, a5, a6, a7, xs, ks⟩, rfl, ⟨i2, i3, f0, f1, f4, f5, f6, f7⟩, hcc, hkc⟩
end
end Go.Proofs.Ytpdhlnkdjcghpaa
