/-
  'append(append([]float64{}, l...), x)', as two laws for the walk: the floats of l are copied into memory of the call's own, x behind them. No statement about a Go function.
-/
import Derived.Test.YtohdhndjbpfliaaFloats
import Derived.Test.YtohdhndjbpfliaaFresh
namespace Go.Proofs.Ytohdhndjbpfliaa
open Go.ChangeShapes Go.WideShapes Go.ChangeAt Go.RowKit

theorem infoFloat : (Try.prog.info? 23).map (fun i => (i.zero, i.size, i.bytes)) = some (some (.float .f64 0), 1, 8) := by kernel_rfl
theorem one_floats (xs : List Nat) : ∀ u ∈ xs.map (Value.float .f64), u.oneCell' = true := by
  intro u hu
  obtain ⟨x, _, rfl⟩ := List.mem_map.1 hu
  rfl
theorem run_append_zero (g c : Nat) (al : Option Addr) (ty : TypeId) (w : World) :
    (Builtin.append_ #[29, 29] ty #[.slice (some ⟨g, 0, none⟩) 0 0, .slice al 0 c]).run Try.prog w = .ok (.slice (some ⟨g, 0, none⟩) 0 0) w := by
  cases al <;> kernel_rfl

theorem wpList_first {w : World} {ops : Array Oper} {rest : List Oper} {o : Oper} {a : Act} {Q : Exit → Act → World → Prop} {al : Option Addr} {n c : Nat} {xs : List Nat}
    (hF : Floats w w.heap.size al n xs) (hn : n ≤ 40) (hgd : o.guard = none) (s x : Operand)
    (ho : o.op = .call { callee := .builtin .append, args := #[s, x], argTypes := #[29, 29] })
    (hs : a.eval s = .slice (some ⟨w.heap.size, 0, none⟩) 0 0) (hx : a.eval x = .slice al n c)
    (h : ∀ g cap w2, w2.ownsRow w.heap.size 23 1 (.slice (some ⟨g, 0, none⟩) n cap) n (xs.map (Value.float .f64)) → Below w.heap.size w w2 →
      wpList Try.prog ops Q rest (a.put o.dst (.slice (some ⟨g, 0, none⟩) n cap)) w2) :
    wpList Try.prog ops Q (o :: rest) a (w.alloc (.cells #[] 23)) := by
  have ownA : (w.alloc (.cells #[] 23)).ownsRow w.heap.size 23 1 (.slice (some ⟨w.heap.size, 0, none⟩) 0 0) 0 [] := World.ownsRow_lit w #[] 0 (Nat.le_refl _) (by unfold maxLen; omega) rfl
  by_cases h0 : n = 0
  · have e : xs = [] := List.length_eq_zero_iff.1 (by rw [hF.len]; exact h0)
    subst h0
    subst e
    refine wpList_plain hgd fun K hK => ?_
    have hrun := run_append_zero w.heap.size c al o.type (w.alloc (.cells #[] 23))
    unfold Oper.wp
    simp [execOp, ho, resolve, invoke, builtin, hs, hx, hrun, Result.andThen]
    exact hK _ _ (h _ _ _ ownA (below1 w _))
  · obtain ⟨i0, hi, hz0, hz1, hz2⟩ := info_parts infoFloat
    obtain ⟨b, o', rfl, hb, _⟩ := hF.head (by omega)
    refine wpList_append_lies _ hgd s x _ ho w.heap.size 23 i0 (.float .f64 0) 1 8 Try.underlying29 hi hz0 hz1 hz2 rfl Nat.one_pos (.slice (some ⟨w.heap.size, 0, none⟩) 0 0) 0 [] hs ownA ⟨b, o', none⟩ n c (xs.map (Value.float .f64)) hx (by simp [hF.len]) ?_ (one_floats xs) (by omega) (by unfold maxLen; omega) (by omega) (by simp) _ rfl ?_
    · exact fnewsOf (B := w.heap.size) (n := n) (hF.alloc (Nat.le_refl _) _)
    · intro g cap w2 hown hgrow _ _
      have hb2 : Below w.heap.size w w2 := Below.grown (below1 w _) hgrow (by simp) (fun k hk => by simp [Value.ownBlock] at hk; omega)
      rw [Nat.zero_add, List.nil_append] at hown
      rw [Nat.zero_add]
      exact h g cap w2 hown hb2

theorem wpList_second {w w2 : World} {ops : Array Oper} {rest : List Oper} {o : Oper} {a : Act} {Q : Exit → Act → World → Prop} {g cap n y : Nat} {xs : List Nat} {at_ : Addr}
    (hown : w2.ownsRow w.heap.size 23 1 (.slice (some ⟨g, 0, none⟩) n cap) n (xs.map (Value.float .f64))) (hb : Below w.heap.size w w2) (hn : n ≤ 40) (hxs : ∀ z ∈ xs, z < 18446744073709551616) (hy : y < 18446744073709551616)
    (hat : at_ = ⟨w2.heap.size, 0, none⟩) (hgd : o.guard = none) (s x : Operand)
    (ho : o.op = .call { callee := .builtin .append, args := #[s, x], argTypes := #[29, 29] })
    (hs : a.eval s = .slice (some ⟨g, 0, none⟩) n cap) (hx : a.eval x = .slice (some at_) 1 1)
    (h : ∀ g cap w3, Floats w3 w3.heap.size (some ⟨g, 0, none⟩) (n + 1) (xs ++ [y]) → Below w.heap.size w w3 →
      wpList Try.prog ops Q rest (a.put o.dst (.slice (some ⟨g, 0, none⟩) (n + 1) cap)) w3) :
    wpList Try.prog ops Q (o :: rest) a (w2.alloc (.cells #[.float .f64 y] 23)) := by
  subst hat
  obtain ⟨i0, hi, hz0, hz1, hz2⟩ := info_parts infoFloat
  have hsz := hb.size
  refine wpList_append_lies _ hgd s x _ ho w.heap.size 23 i0 (.float .f64 0) 1 8 Try.underlying29 hi hz0 hz1 hz2 rfl Nat.one_pos (.slice (some ⟨g, 0, none⟩) n cap) n (xs.map (Value.float .f64)) hs (hown.alloc _) ⟨w2.heap.size, 0, none⟩ 1 1 [.float .f64 y] hx rfl ?_ (by simp [Value.oneCell']) (by omega) (by unfold maxLen; omega) (by omega) (by simp; omega) _ rfl ?_
  · exact fnewsOne (by simp)
  · intro g' cap' w3 hown' hgrow _ _
    have hg : w.heap.size ≤ g := (hown.lt g rfl).1
    have hb3 : Below w.heap.size w w3 := Below.grown (hb.alloc hsz _) hgrow (by simp; omega) (fun k hk => by simp [Value.ownBlock] at hk; omega)
    have e : xs.map (Value.float .f64) ++ [Value.float .f64 y] = (xs ++ [y]).map (Value.float .f64) := by simp
    rw [e] at hown'
    refine h g' cap' w3 (floats_of_own hown' (by omega) (by omega) ?_) hb3
    intro z hz
    rcases List.mem_append.1 hz with hz | hz
    · exact hxs z hz
    · simp at hz; rw [hz]; exact hy
end Go.Proofs.Ytohdhndjbpfliaa
