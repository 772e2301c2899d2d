/-
  slices.Clone of ints: the same numbers in new memory that may be written. And what package plan's behind lays: its closure, and the boxes that the iterator reads.
-/
import Derived.Test.YtghlngdmcfconaaPlanAsk
import Derived.Test.YtghlngdmcfconaaIntsApp
import Derived.OwnWalk
namespace Go.Proofs.Ytghlngdmcfconaa
open Go.ChangeShapes Go.WideShapes Go.ChangeAt Go.RowKit Go.Deep

/-- A slice of ints of the call's own, from block B on, that may be written. -/
def Own1 (w : World) (B : Nat) (a : Option Addr) (n c : Nat) : Prop := n ≤ c ∧ (0 < n → ∃ g o, a = some ⟨g, o, none⟩ ∧ B ≤ g ∧ ∀ k, w.frozen? ⟨g, k, none⟩ = false)
/-- How a call ends that tells new ints. -/
def Tells (n : Nat) (xs : List Int) (w : World) (e : Ending) (w' : World) : Prop :=
  ∃ a c, e = .returned (.slice a n c) ∧ Ints w' w'.heap.size a n xs ∧ Own1 w' w.heap.size a n c ∧ Below w.heap.size w w'

theorem clone_any (a : Option Addr) (n c : Nat) (xs : List Int) (w : World) (h : Ints w w.heap.size a n xs) (hn : n ≤ 1000) :
    Calls Try.prog 21 #[.slice a n c] w (Tells n xs w) := by
  cases a with
  | none =>
    have hn0 : n = 0 := by
      rcases Nat.eq_zero_or_pos n with e | e
      · exact e
      · obtain ⟨b, o, e, _⟩ := h.head e
        cases e
    subst hn0
    have he : ∀ v, (binOp .eql 22 (.slice none 0 c) (.slice none 0 0)).run Try.prog v = .ok (.bool true) v := fun v => by kernel_rfl
    have HI := Lib.hid h
    clear h
    go_enter Try.func21, Try.ntmps21
    go_wp2
    go_ret
    exact ⟨none, 0, rfl, HI.out, ⟨by omega, fun q => absurd q (by omega)⟩, Below.refl _ _⟩
  | some ad =>
    have he : ∀ v, (binOp .eql 22 (.slice (some ad) n c) (.slice none 0 0)).run Try.prog v = .ok (.bool false) v := fun v => by kernel_rfl
    have own0 : (w.alloc (.cells #[] 3)).ownsRow w.heap.size 3 1 (.slice (some ⟨w.heap.size, 0, none⟩) 0 0) 0 (([] : List Int).map (Value.int .i64)) := World.ownsRow_lit w #[] 0 (Nat.le_refl _) (by unfold maxLen; omega) rfl
    obtain ⟨g, cap, w5, hrun, hown, b5⟩ := app_ints (c := c) own0 (h.on (below1 w (.cells #[] 3))) (by simp) (by omega) 22
    rw [Nat.zero_add, List.nil_append] at hown
    rw [Nat.zero_add] at hrun
    obtain ⟨J5, hcap⟩ := ints_own hown (by omega) h.2.2.1
    have HE : Hid (Tells n xs w (.returned (.slice (some ⟨g, 0, none⟩) n cap)) w5) := Lib.hid ⟨some ⟨g, 0, none⟩, cap, rfl, J5, ⟨hcap, fun _ => ⟨g, 0, rfl, (hown.lt g rfl).1, fun k => hown.frozenAt k⟩⟩, (below1 w _).trans b5⟩
    have R := Lib.hid hrun
    have hm := h.max
    clear J5 hown own0 b5 hrun h
    go_enter Try.func21, Try.ntmps21
    go_wp2_with (at_builtin; refine wpList_append_run rfl _ _ rfl rfl rfl rfl R.out ?_)
    go_ret
    exact HE.out

/-- A page goes that has none, or all, of its blocks. -/
def goesB (b x : Int) : Bool := x == 0 || x == b
theorem goes_any (b x : Int) (p : Nat) (w : World) (h : w.cell? ⟨p, 0, none⟩ = some (.int .i64 b)) :
    Calls Try.prog 22 #[.int .i64 x, .pointer (some ⟨p, 0, none⟩)] w (B1 (goesB b x) w) := by
  unfold goesB
  cases h1 : (x == 0) with
  | true =>
    go_enter Try.func22, Try.ntmps22
    go_wp2
    go_ret
    exact ⟨rfl, rfl⟩
  | false =>
    go_enter Try.func22, Try.ntmps22
    go_wp2
    go_ret
    exact ⟨rfl, rfl⟩

/-- The boxes that the iterator reads, from block p on: the counts, how many blocks, how many moves at most, the closure. -/
structure Bx (w : World) (p : Nat) (a : Option Addr) (n c : Nat) (b most : Int) : Prop where
  cnt : w.cell? ⟨p, 0, none⟩ = some (.slice a n c)
  blk : w.cell? ⟨p + 1, 0, none⟩ = some (.int .i64 b)
  mst : w.cell? ⟨p + 2, 0, none⟩ = some (.int .i64 most)
  gos : w.cell? ⟨p + 3, 0, none⟩ = some (.func (.func 22) #[] #[.pointer (some ⟨p + 1, 0, none⟩)])
/-- What the iterator is bound to. -/
def bound (p : Nat) : Array Value := #[.pointer (some ⟨p, 0, none⟩), .pointer (some ⟨p + 1, 0, none⟩), .pointer (some ⟨p + 2, 0, none⟩), .pointer (some ⟨p + 3, 0, none⟩)]
section
variable {w w' : World} {p : Nat} {a : Option Addr} {n c : Nat} {b most : Int}
theorem Bx.lt (h : Bx w p a n c b most) : p + 3 < w.heap.size := lt_of_cell h.gos
theorem Bx.but {S : Nat → Prop} (h : Bx w p a n c b most) (hb : But S w w') (hS : ∀ k, p ≤ k → k ≤ p + 3 → ¬ S k) : Bx w' p a n c b most := by
  have hl := h.lt
  exact ⟨(hb.cell (p := ⟨p, 0, none⟩) (by show p < _; omega) (hS p (by omega) (by omega))).trans h.cnt, (hb.cell (p := ⟨p + 1, 0, none⟩) (by show p + 1 < _; omega) (hS (p + 1) (by omega) (by omega))).trans h.blk,
    (hb.cell (p := ⟨p + 2, 0, none⟩) (by show p + 2 < _; omega) (hS (p + 2) (by omega) (by omega))).trans h.mst, (hb.cell (p := ⟨p + 3, 0, none⟩) hl (hS (p + 3) (by omega) (by omega))).trans h.gos⟩
end
theorem behind_any (a : Option Addr) (n c : Nat) (b most : Int) (w : World) :
    Calls Try.prog 20 #[.slice a n c, .int .i64 b, .int .i64 most] w fun e w' => e = .returned (.func (.func 23) #[] (bound w.heap.size)) ∧ Bx w' w.heap.size a n c b most ∧ Below w.heap.size w w' := by
  have hmf : ∀ (fn : Fn) (first cap : Array Value) (w : World), (Instr.makeFunc fn first cap).run Try.prog w = .ok (.func fn first cap) w := fun _ _ _ _ => rfl
  have hst : ∀ (q : Addr) (fn : Fn) (s c : Array Value) (m : Mode) (u : World), (store q (.func fn s c) m).run Try.prog u = stored Try.prog u q (.func fn s c) m := fun q fn s c m u => run_store Try.prog u q _ m rfl
  go_enter Try.func20, Try.ntmps20
  go_wp2
  go_ret
  refine ⟨rfl, ⟨?_, ?_, ?_, ?_⟩, (((below1 w _).alloc (by simp) _).alloc (by simp; omega) _).alloc (by simp; omega) _⟩
  · rw [World.cell?_alloc_past _ _ _ (by simp <;> omega), World.cell?_alloc_past _ _ _ (by simp <;> omega), World.cell?_alloc_past _ _ _ (by simp), World.cell?_alloc_at _ _ _ _ rfl]
    rfl
  · rw [World.cell?_alloc_past _ _ _ (by simp <;> omega), World.cell?_alloc_past _ _ _ (by simp <;> omega), World.cell?_alloc_at _ _ _ _ (by simp)]
    rfl
  · rw [World.cell?_alloc_past _ _ _ (by simp <;> omega), World.cell?_alloc_at _ _ _ _ (by simp)]
    rfl
  · rw [World.cell?_alloc_at _ _ _ _ (by simp)]
    rfl
end Go.Proofs.Ytghlngdmcfconaa
