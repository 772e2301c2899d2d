import Derived.Test.YtijkigibcpgciaaRows
import Derived.WalkKit
import Derived.ProofKit
import Derived.OpenShut
import Derived.Below
import Derived.Deep.Draws
import Derived.Deep.QuietTactic
import Derived.BigQuiet
import Derived.Deep.RegionWith
import Derived.Deep.RegionLaw
import Derived.Deep.RegionHeld3
import Derived.Deep.DeepCutAuto
import Derived.BigRegion
import Derived.Deep.Fields
import Derived.Deep.Slices
import Derived.ChangeSame
import Derived.ShutString
import Derived.ChangeOld
import Derived.Deep.AppendLies
import Derived.Deep.Onto
import Derived.OwnWalk
import Derived.Laws.OwnMore
/-
  Words for what a call leaves of the memory, and for how it ends. No statement about a Go function.
-/
namespace Go.Proofs.Ytijkigibcpgciaa
open Go.ChangeShapes Go.WideShapes Go.ChangeAt Go.RowKit

/-! ### What a call leaves of the memory -/
structure Fresh (w w' : World) : Prop where
  below : Below w.heap.size w w'
  grown : Grown w w'

theorem Fresh.refl (w : World) : Fresh w w := ⟨Below.refl _ _, Grown.refl _⟩
theorem Fresh.trans {a b c : World} (h : Fresh a b) (k : Fresh b c) : Fresh a c :=
  ⟨h.below.trans (k.below.mono h.below.size), ⟨World.keptBut_trans h.grown.1 (World.keptBut_mono (fun _ f => f.elim) k.grown.1), fun x => (k.grown.2.1 x).trans (h.grown.2.1 x), Nat.le_trans h.grown.2.2 k.grown.2.2⟩⟩
theorem Fresh.alloc {a b : World} (h : Fresh a b) (c : Array Value) (t : TypeId) : Fresh a (b.alloc (.cells c t)) :=
  ⟨h.below.alloc h.below.size _, h.grown.alloc c t⟩

/-! ### Words for how a call ends -/
/-- It returns the int P, and lays at most new blocks. -/
def F2 (P : Int) (w : World) (e : Ending) (w' : World) : Prop := e = .returned (.int .i64 P) ∧ Fresh w w'
/-- It returns the int P, and the world is as it was. -/
def R1 (P : Int) (w : World) (e : Ending) (w' : World) : Prop := e = .returned (.int .i64 P) ∧ w = w'
/-- It returns the bool P, and the world is as it was. -/
def B1 (P : Bool) (w : World) (e : Ending) (w' : World) : Prop := e = .returned (.bool P) ∧ w = w'
/-- It returns the int P, and draws alone. -/
def RQ (P : Int) (w : World) (e : Ending) (w' : World) : Prop := e = .returned (.int .i64 P) ∧ ∃ n, w' = w.drewN n
/-- It returns the bool P, and draws alone. -/
def BQ (P : Bool) (w : World) (e : Ending) (w' : World) : Prop := e = .returned (.bool P) ∧ ∃ n, w' = w.drewN n
/-- It returns the int P, and leaves all memory that was there as it was. -/
def IB (P : Int) (w : World) (e : Ending) (w' : World) : Prop := e = .returned (.int .i64 P) ∧ Below w.heap.size w w'
/-- It returns the bool P, and leaves all memory that was there as it was. -/
def BB (P : Bool) (w : World) (e : Ending) (w' : World) : Prop := e = .returned (.bool P) ∧ Below w.heap.size w w'
theorem belowN {B : Nat} {w w' : World} (h : Below B w w') (k : Nat) : Below B w (w'.drewN k) := ⟨h.os, h.tape, h.output, h.size, h.block⟩
theorem belowD {B : Nat} {w w' : World} (h : Below B w w') : Below B w w'.drew := ⟨h.os, h.tape, h.output, h.size, h.block⟩
theorem below1 (w : World) (o : Obj) : Below w.heap.size w (w.alloc o) := (Below.refl _ _).alloc (Nat.le_refl _) o
theorem below2 (w : World) (o1 o2 : Obj) : Below w.heap.size w ((w.alloc o1).alloc o2) := (below1 w o1).alloc (by simp) o2
/-- A callee that leaves the world as it was, inside a region that draws. -/
theorem quiet1 {P : Program} {f : FuncId} {args : Array Value} {w : World} {n : Nat} {v : Value}
    (h : Calls P f args (w.drewN n) fun e w' => e = .returned v ∧ w.drewN n = w') : Calls P f args (w.drewN n) fun e w'' => e = .returned v ∧ ∃ m, w'' = w.drewN m :=
  h.mono fun _ _ ⟨he, hm⟩ => ⟨he, n, hm.symm⟩
/-- One call behind another. -/
theorem belowT {w w1 w2 : World} (h : Below w.heap.size w w1) (k : Below w1.heap.size w1 w2) : Below w.heap.size w w2 := h.trans (k.mono h.size)
end Go.Proofs.Ytijkigibcpgciaa
/-
  'But S w w'': of the blocks that were there only those in S may have turned. For calls that write through a pointer. No statement about a Go function.
-/
namespace Go.Proofs.Ytijkigibcpgciaa
open Go.ChangeShapes Go.WideShapes Go.ChangeAt Go.RowKit

/-- Of the blocks that were there only those in S may have turned; the streams are as they were; no block has gone. -/
structure But (S : Nat → Prop) (w w' : World) : Prop where
  os : w'.os = w.os
  tape : w'.tape = w.tape
  output : w'.output = w.output
  size : w.heap.size ≤ w'.heap.size
  block : ∀ k, k < w.heap.size → ¬ S k → w'.heap[k]? = w.heap[k]?

section
variable {S T : Nat → Prop} {a b c w w' : World} {B : Nat}
theorem But.refl (S : Nat → Prop) (w : World) : But S w w := ⟨rfl, rfl, rfl, Nat.le_refl _, fun _ _ _ => rfl⟩
/-- One call behind another: what the second may turn is let by, or was made meanwhile. -/
theorem But.then (h : But S a b) (k : But T b c) (hT : ∀ i, i < a.heap.size → T i → S i) : But S a c :=
  ⟨k.os.trans h.os, k.tape.trans h.tape, k.output.trans h.output, Nat.le_trans h.size k.size, fun i hi hn => (k.block i (Nat.lt_of_lt_of_le hi h.size) (fun t => hn (hT i hi t))).trans (h.block i hi hn)⟩
theorem But.trans (h : But S a b) (k : But S b c) : But S a c := h.then k fun _ _ s => s
theorem But.mono (h : But S w w') (hS : ∀ i, i < w.heap.size → S i → T i) : But T w w' := ⟨h.os, h.tape, h.output, h.size, fun i hi hn => h.block i hi (fun s => hn (hS i hi s))⟩
theorem But.drew (h : But S a w) : But S a w.drew := ⟨h.os, h.tape, h.output, h.size, h.block⟩
theorem But.drewN (h : But S a w) (k : Nat) : But S a (w.drewN k) := ⟨h.os, h.tape, h.output, h.size, h.block⟩
theorem But.alloc (h : But S a w) (o : Obj) : But S a (w.alloc o) := h.trans ⟨rfl, rfl, rfl, by simp, fun _ hk _ => Below.heap_alloc _ _ _ hk⟩
theorem But.setCell (h : But S a w) {p : Addr} (hp : p.block < a.heap.size → S p.block) (u : Value) : But S a (w.setCell p u) :=
  h.then (T := fun i => i = p.block) ⟨rfl, rfl, rfl, by simp [World.setCell], fun k _ hk => Below.heap_setCell _ _ _ _ hk⟩ fun i hi e => by subst e; exact hp hi
theorem But.cell (h : But S w w') {p : Addr} (hp : p.block < w.heap.size) (hn : ¬ S p.block) : w'.cell? p = w.cell? p := World.cell?_of_block (w := w) (h.block p.block hp hn)
theorem But.frozen (h : But S w w') {p : Addr} (hp : p.block < w.heap.size) (hn : ¬ S p.block) : w'.frozen? p = w.frozen? p := World.frozen?_of_block (w := w) (h.block p.block hp hn)
theorem But.below (h : But S w w') (hB : B ≤ w.heap.size) (hn : ∀ k, k < B → ¬ S k) : Below B w w' := ⟨h.os, h.tape, h.output, h.size, fun k hk => h.block k (by omega) (hn k hk)⟩
theorem Below.but (h : Below w.heap.size w w') (S : Nat → Prop) : But S w w' := ⟨h.os, h.tape, h.output, h.size, fun k hk _ => h.block k hk⟩
/-- One block may have turned, and it lies from B on. -/
theorem But.one {g : Nat} (h : But (· = g) w w') (hB : B ≤ w.heap.size) (hg : B ≤ g) : Below B w w' := h.below hB fun k hk e => by omega
end
theorem lt_of_cell {w : World} {p : Addr} {v : Value} (h : w.cell? p = some v) : p.block < w.heap.size := by
  rcases Nat.lt_or_ge p.block w.heap.size with g | g
  · exact g
  · simp [World.cell?, Array.getElem?_eq_none g] at h
end Go.Proofs.Ytijkigibcpgciaa
/-
  Imports alone: what walks with drawn regions that only read use.
-/
/-
  Imports alone: what walks with drawn regions use.
-/
/-
  A struct by value of whatever many fields of one cell each, opened field by field, out of its value or out of its cells. No statement about a Go function.
-/
namespace Go.Proofs.Ytijkigibcpgciaa
open Go.ChangeShapes Go.WideShapes Go.ChangeAt Go.RowKit Go.Deep

section
variable {H : Type} {enc : TypeId × Value → H} {P : Program} {w : World} {base : Nat} {spare : Nat → Bool} {held : Bool}
theorem fields_of {t : TypeId} {fs : Array Field} {cs : List Value} {fuel : Nat} {x : DataW H × List MemPlace} (hs : P.underlying t = some (.struct fs)) (hone : oneCellFields P fs = true) (hC : P.cellsOf t = fs.size)
    (h : DataW.trod enc P w base spare held fuel t cs = some x) :
    cs.length = fs.size ∧ ∀ (i : Nat) (f : Field), fs[i]? = some f → ∃ (u : Value) (y : DataW H × List MemPlace) (n : Nat), cs[i]? = some u ∧ DataW.trod enc P w base spare held n f.type [u] = some y := by
  obtain ⟨xs, n, _, hx, hlen, hxl, hg⟩ := DataW.trod_struct hs h
  refine ⟨hlen.trans hC, fun i f hi => ?_⟩
  obtain ⟨ho, hk⟩ := hone_of hone i f hi
  have hil : i < fs.size := (Array.getElem?_eq_some_iff.1 hi).1
  have h1 := hg i f hi
  rw [ho, hk] at h1
  have hlt : i < cs.length := by omega
  have hone' : (cs.drop i).take 1 = [cs[i]'hlt] := by rw [List.drop_eq_getElem_cons hlt]; rfl
  rw [hone'] at h1
  exact ⟨_, _, n, List.getElem?_eq_getElem hlt, h1.trans (List.getElem?_eq_getElem (by omega))⟩
/-- Out of the value. -/
theorem fields_in {r : Reach} {b0 : Nat} {t : TypeId} {fs : Array Field} {v : Value} {d : DataW H} {p : List MemPlace} (hs : P.underlying t = some (.struct fs)) (hone : oneCellFields P fs = true) (hC : P.cellsOf t = fs.size)
    (hv : Value.okWide P w r b0 t v) (h : DataW.Trod enc P w base spare held t v d p) :
    ∃ cs : Array Value, v = .agg cs ∧ cs.toList.length = fs.size ∧ ∃ fuel, DataW.trod enc P w base spare held fuel t cs.toList = some (d, p) := by
  obtain ⟨cs, rfl, hsz⟩ := okWide_struct hs hv
  obtain ⟨fuel, hf⟩ := h
  have hc : (Value.agg cs).cells.toList = cs.toList := by simp [Value.cells]
  rw [hc] at hf
  exact ⟨cs, rfl, (fields_of hs hone hC hf).1, fuel, hf⟩
/-- An array by value, of elements of one cell each: its cells, and how each reads. -/
theorem array_in {r : Reach} {b0 n : Nat} {t e : TypeId} {v : Value} {d : DataW H} {p : List MemPlace} (hs : P.underlying t = some (.array n e)) (hk : P.cellsOf e = 1) (hC : P.cellsOf t = n)
    (hv : Value.okWide P w r b0 t v) (h : DataW.Trod enc P w base spare held t v d p) :
    ∃ cs : Array Value, v = .agg cs ∧ cs.toList.length = n ∧ ∀ i, i < n → ∃ (u : Value) (y : DataW H × List MemPlace) (m : Nat), cs.toList[i]? = some u ∧ DataW.trod enc P w base spare held m e [u] = some y := by
  simp only [Value.okWide, hs] at hv
  obtain ⟨cs, rfl, _⟩ := hv
  obtain ⟨fuel, hf⟩ := h
  have hc : (Value.agg cs).cells.toList = cs.toList := by simp [Value.cells]
  rw [hc] at hf
  obtain ⟨xs, m, _, _, hlen, hxl, hg⟩ := DataW.trod_array hs hf
  have hl : cs.toList.length = n := hlen.trans hC
  refine ⟨cs, rfl, hl, fun i hi => ?_⟩
  have h1 := hg i hi
  rw [hk, Nat.mul_one] at h1
  have hlt : i < cs.toList.length := by omega
  have hone' : (cs.toList.drop i).take 1 = [cs.toList[i]'hlt] := by rw [List.drop_eq_getElem_cons hlt]; rfl
  rw [hone'] at h1
  exact ⟨_, _, m, List.getElem?_eq_getElem hlt, h1.trans (List.getElem?_eq_getElem (by omega))⟩
end
end Go.Proofs.Ytijkigibcpgciaa
/-
  Bounds of numbers that came in. No statement about a Go function.
-/
namespace Go.Proofs.Ytijkigibcpgciaa
theorem wfu8 {x : Int} (h : (Lit.int .u8 x).wf = true) : 0 ≤ x ∧ x ≤ 255 := by
  simpa [Lit.wf, IntKind.min, IntKind.max, IntKind.signed, IntKind.bits] using h
theorem wfu16 {x : Int} (h : (Lit.int .u16 x).wf = true) : 0 ≤ x ∧ x ≤ 65535 := by
  simpa [Lit.wf, IntKind.min, IntKind.max, IntKind.signed, IntKind.bits] using h
end Go.Proofs.Ytijkigibcpgciaa
/-
  Imports alone: what walks with append, cuts and held regions use.
-/
/-
  An append whose run is known, as a law for the walk. No statement about a Go function.
-/
namespace Go.Proofs.Ytijkigibcpgciaa
open Go.ChangeShapes Go.WideShapes Go.ChangeAt Go.RowKit Go.Deep


/-- An append whose run is known, as a law for the walk. -/
theorem wpList_append_run {t : TypeId} {w w' : World} {ops : Array Oper} {rest : List Oper} {o : Oper} {a : Act} {Q : Exit → Act → World → Prop} {v v1 v2 : Value} (hgd : o.guard = none) (s x : Operand)
    (ho : o.op = .call { callee := .builtin .append, args := #[s, x], argTypes := #[t, t] }) (hty : o.type = t) (hs : a.eval s = v1) (hx : a.eval x = v2)
    (hrun : (Builtin.append_ #[t, t] t #[v1, v2]).run Try.prog w = .ok v w') (h : wpList Try.prog ops Q rest (a.put o.dst v) w') : wpList Try.prog ops Q (o :: rest) a w := by
  refine wpList_plain hgd fun K hK => ?_
  unfold Oper.wp
  simp [execOp, ho, resolve, invoke, builtin, hs, hx, hty, hrun, Result.andThen]
  exact hK _ _ h
/-- The same at a step of a region that draws its order. -/
theorem step_append_run {t : TypeId} {w w' : World} {ops : Array Oper} {o : Oper} {a : Act} {K : Act → World → Prop} {Q : Exit → Act → World → Prop} {E : Prop} {v v1 v2 : Value} (hgd : o.guard = none) (s x : Operand)
    (ho : o.op = .call { callee := .builtin .append, args := #[s, x], argTypes := #[t, t] }) (hty : o.type = t) (hs : a.eval s = v1) (hx : a.eval x = v2)
    (hrun : (Builtin.append_ #[t, t] t #[v1, v2]).run Try.prog w = .ok v w') (h : K (a.put o.dst v) w') : if Region.wanted o (yielded ops a.tmps) = true then Oper.wp Try.prog o a w K Q else E := by
  have hw : Region.wanted o (yielded ops a.tmps) = true := by simp [Region.wanted, hgd]
  rw [if_pos hw]
  unfold Oper.wp
  simp [execOp, ho, resolve, invoke, builtin, hs, hx, hty, hrun, Result.andThen]
  exact h
theorem newsOne {w : World} {g : Nat} {x : Value} (h : w.cell? ⟨g, 0, none⟩ = some x) : ∀ (j : Nat) (u : Value), [x][j]? = some u → w.cell? ((⟨g, 0, none⟩ : Addr).add j) = some u := by
  intro j u hu
  match j, hu with
  | 0, hu => simp at hu; subst hu; simpa [Addr.add] using h
end Go.Proofs.Ytijkigibcpgciaa
