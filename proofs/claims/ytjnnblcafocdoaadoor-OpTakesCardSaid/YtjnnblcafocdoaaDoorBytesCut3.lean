/-
  A cut of bytes with three indices ('b[i:j:k]'), of a slice that may be nil: its run, and what it holds; a step of a drawn region that is such a cut. No statement about a Go function.
-/
import Derived.Test.YtjnnblcafocdoaaDoorBytes
import Derived.Test.YtjnnblcafocdoaaDoorHeldOff
namespace Go.Proofs.YtjnnblcafocdoaaDoor
open Go.ChangeShapes Go.WideShapes Go.ChangeAt Go.RowKit

/-- 'b[i:j:k]' runs so: the ends told as ints, as the code has them. -/
theorem cut3_run {b o n c i j k : Nat} {I J K : Int} (hI : (i : Int) = I) (hJ : (j : Int) = J) (hK : (k : Int) = K) (hij : i ≤ j) (hjk : j ≤ k) (hkc : k ≤ c) :
    ∃ o', (0 < j - i → o' = o + i) ∧ ∀ v, (Instr.sliceAt 25 (.slice (some ⟨b, o, none⟩) n c) (some (.int .i64 I)) (some (.int .i64 J)) (some (.int .i64 K))).run Tryd.prog v = .ok (.slice (some ⟨b, o', none⟩) (j - i) (k - i)) v := by
  subst hI hJ hK
  have hu : Tryd.prog.underlying 25 = some (.slice (Tryd.prog.elem 25)) := by kernel_rfl
  have hs : ∀ v, (sizeOf (Tryd.prog.elem 25)).run Tryd.prog v = .ok 1 v := fun v => by kernel_rfl
  have run : ∀ v, (Instr.sliceAt 25 (.slice (some ⟨b, o, none⟩) n c) (some (.int .i64 (i : Int))) (some (.int .i64 (j : Int))) (some (.int .i64 (k : Int)))).run Tryd.prog v = .ok (sliced (some ⟨b, o, none⟩) i j k 1) v := by
    intro v
    rw [run_sliceAt_slice _ _ _ _ _ _ hu, run_slice_lhm _ _ _ _ _ hu _ _ _ _ _ _ (by omega) (by omega) (by omega) (by omega), hs]
    simp [Result.andThen]
  by_cases hc : k = i
  · exact ⟨o, fun h => by omega, fun v => (run v).trans (by simp [sliced, hc])⟩
  · refine ⟨o + i, fun _ => rfl, fun v => (run v).trans ?_⟩
    by_cases h0 : i = 0
    · subst h0; simp [sliced, Addr.add]
    · simp [sliced, hc, Addr.add, h0]
section
variable {P : Program} {ops : Array Oper} {Q : Exit → Act → World → Prop} {md : Region.Mode} {S : World → Prop} {i : Nat} {oi : Oper} {v X L H M : Value} {fuel : Nat} {listed : Array Bool} {a : Act} {w : World} {t : TypeId} {x l h m : Operand}
/-- A step of a drawn region, walked by hand, that is such a cut. -/
theorem held_cut3 (hi : ops[i]? = some oi) (hs : Region.noSelect ops = true) (hf : Region.free md ops listed i = true) (hr : (Region.ready md ops listed).contains i = true)
    (hQ : ∀ c a w, Q (.panic c) (a.put oi.dst v) w → Q (.panic c) a w) (hw : Region.wanted oi (yielded ops a.tmps) = true) (ho : oi.op = .slice t x (some l) (some h) (some m)) (hx : a.eval x = X) (hl : a.eval l = L) (hh : a.eval h = H) (hm : a.eval m = M)
    (hrun : ∀ w, (Instr.sliceAt t X (some L) (some H) (some M)).run P w = .ok v w) (hS : S w)
    (hk : wpAnyH P md ops Q S fuel (listed.setIfInBounds i true) (a.put oi.dst v) w) : wpAnyH P md ops Q S (fuel + 1) listed a w :=
  held_on hi hs hf hr hQ hw (fun w _ => by simp [execOp, ho, hx, hl, hh, hm, hrun w, Result.andThen]) hS hk
end
end Go.Proofs.YtjnnblcafocdoaaDoor
