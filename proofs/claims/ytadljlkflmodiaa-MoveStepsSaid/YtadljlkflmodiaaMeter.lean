/-
  Package meter, each function met by a contract: at a meter that counts t, and was at l at the last lap, Charge counts 'more', Total is t, Lap is t - l; nothing else turns. At nil nothing turns.
-/
import Derived.Test.YtadljlkflmodiaaBut
import Derived.Test.YtadljlkflmodiaaMeterNum
import Derived.Defers
import Derived.BigQuiet
import Derived.Deep.RegionLaw
namespace Go.Proofs.Ytadljlkflmodiaa
open Go.ChangeShapes Go.WideShapes Go.ChangeAt Go.RowKit

/-- Block g is a meter that counts t, and was at l at the last lap. -/
structure Mt (w : World) (g : Nat) (t l : Int) : Prop where
  total : w.cell? ⟨g, 0, none⟩ = some (.int .i64 t)
  last : w.cell? ⟨g, 1, none⟩ = some (.int .i64 l)
  free0 : w.frozen? ⟨g, 0, none⟩ = false
  free1 : w.frozen? ⟨g, 1, none⟩ = false
  l0 : 0 ≤ l
  lt : l ≤ t
  t1 : t ≤ 4611686018427387904
section
variable {w w' : World} {g : Nat} {t l : Int}
theorem Mt.size (h : Mt w g t l) : g < w.heap.size := lt_of_cell (p := ⟨g, 0, none⟩) h.total
theorem Mt.but {S : Nat → Prop} (h : Mt w g t l) (hb : But S w w') (hn : ¬ S g) : Mt w' g t l :=
  ⟨(hb.cell (p := ⟨g, 0, none⟩) h.size hn).trans h.total, (hb.cell (p := ⟨g, 1, none⟩) h.size hn).trans h.last, (hb.frozen (p := ⟨g, 0, none⟩) h.size hn).trans h.free0, (hb.frozen (p := ⟨g, 1, none⟩) h.size hn).trans h.free1, h.l0, h.lt, h.t1⟩
theorem Mt.below (h : Mt w g t l) (hb : Below w.heap.size w w') : Mt w' g t l := h.but (Below.but hb fun _ => False) id
theorem Mt.drewN (h : Mt w g t l) (k : Nat) : Mt (w.drewN k) g t l := h.but ((But.refl (fun _ => False) w).drewN k) id
theorem Mt.set0 (h : Mt w g t l) {t' : Int} (h0 : l ≤ t') (h1 : t' ≤ 4611686018427387904) : Mt (w.setCell ⟨g, 0, none⟩ (.int .i64 t')) g t' l :=
  ⟨World.cell?_setCell_same w _ _ h.total, (World.cell?_setCell_other w ⟨g, 0, none⟩ ⟨g, 1, none⟩ _ (by simp)).trans h.last, by simpa using h.free0, by simpa using h.free1, h.l0, h0, h1⟩
theorem Mt.set1 (h : Mt w g t l) {l' : Int} (h0 : 0 ≤ l') (h1 : l' ≤ t) : Mt (w.setCell ⟨g, 1, none⟩ (.int .i64 l')) g t l' :=
  ⟨(World.cell?_setCell_other w ⟨g, 1, none⟩ ⟨g, 0, none⟩ _ (by simp)).trans h.total, World.cell?_setCell_same w _ _ h.last, by simpa using h.free0, by simpa using h.free1, h0, h1, h.t1⟩
end

theorem new_any (w : World) :
    Calls Try.prog 10 #[] w fun e w' => e = .returned (.pointer (some ⟨w.heap.size, 0, none⟩)) ∧ Mt w' w.heap.size 0 0 ∧ Below w.heap.size w w' ∧ w.heap.size < w'.heap.size := by
  go_enter Try.func10, Try.ntmps10
  go_wp2
  go_ret
  exact ⟨rfl, ⟨by simp, by simp, by simp, by simp, by omega, by omega, by omega⟩, below1 w _, by simp⟩

theorem bound_any (g : Nat) (t l n : Int) (w : World) (h : Mt w g t l) :
    Calls Try.prog 40 #[.pointer (some ⟨g, 0, none⟩), .int .i64 n] w (R1 (max 0 (min n (4611686018427387904 - t))) w) := by
  have h0 := h.total
  have l0 := h.l0
  have lt := h.lt
  have t1 := h.t1
  have hw : IntKind.i64.wrap (4611686018427387904 - t) = 4611686018427387904 - t := IntWalk.i64_in _ (by omega)
  go_enter Try.func40, Try.ntmps40
  go_wp2
  all_goals (go_ret; refine ⟨?_, rfl⟩; show Ending.returned (Value.int .i64 _) = Ending.returned (Value.int .i64 _); congr 2; rename_i k; first | (rw [if_pos h] at k; omega) | (rw [if_neg (Int.not_lt.2 h)] at k; omega))

theorem mark_deferred (g : Nat) (t l : Int) (u : FrameMode) (w : World) (h : Mt w g t l) :
    CallsD Try.prog 38 #[.pointer (some ⟨g, 0, none⟩)] u w fun e u' w' => u' = u ∧ (e = .returned (.tuple #[]) ∧ w' = w.setCell ⟨g, 1, none⟩ (.int .i64 t)) := by
  have h0 := h.total
  have h1 := h.last
  have f1 := h.free1
  go_enter_d Try.func38, Try.ntmps38
  go_wp2
  go_end0
  exact ⟨rfl, rfl⟩

theorem total_any (g : Nat) (t l : Int) (w : World) (h : Mt w g t l) :
    Calls Try.prog 20 #[.pointer (some ⟨g, 0, none⟩)] w (R1 t w) := by
  have h0 := h.total
  go_enter Try.func20, Try.ntmps20
  go_wp2
  go_ret
  exact ⟨rfl, rfl⟩
theorem total_nil (w : World) :
    Calls Try.prog 20 #[.pointer none] w (R1 0 w) := by
  go_enter Try.func20, Try.ntmps20
  go_wp2
  go_ret
  exact ⟨rfl, rfl⟩
theorem charge_nil (n : Int) (w : World) :
    Calls Try.prog 26 #[.pointer none, .int .i64 n] w fun e w' => e = .returned (.tuple #[]) ∧ w = w' := by
  go_enter Try.func26, Try.ntmps26
  go_wp2
  first | go_end0 | refine bodyPost_ret (results_none rfl _ _ _) rfl ?_
  exact ⟨rfl, rfl⟩
theorem lap_nil (w : World) :
    Calls Try.prog 23 #[.pointer none] w (R1 0 w) := by
  go_enter_defers Try.func23, Try.ntmps23
  go_wp2
  exact ⟨_, results_tmp rfl _ _ _, rfl, rfl⟩
theorem lap_any (g : Nat) (t l : Int) (w : World) (h : Mt w g t l) :
    Calls Try.prog 23 #[.pointer (some ⟨g, 0, none⟩)] w fun e w' => e = .returned (.int .i64 (t - l)) ∧ Mt w' g t t ∧ But (· = g) w w' := by
  have h0 := h.total
  have h1 := h.last
  have l0 := h.l0
  have lt := h.lt
  have t1 := h.t1
  have hw : IntKind.i64.wrap (t - l) = t - l := IntWalk.i64_in _ (by omega)
  go_enter_defers Try.func23, Try.ntmps23
  go_wp2
  go_region
  go_wp2
  refine leaves_cons (f := 38) (args := #[.pointer (some ⟨g, 0, none⟩)]) (by simp) (by simp [go_sem]) ?_
  refine (mark_deferred g t l .returning _ (h.drewN 1)).mono ?_
  rintro e u' w'' ⟨rfl, rfl, rfl⟩
  exact ⟨_, results_tmp rfl _ _ _, rfl, (h.drewN 1).set1 (by omega) (by omega), ((But.refl (· = g) w).drewN 1).setCell (p := ⟨g, 1, none⟩) (fun _ => rfl) _⟩
theorem count_any (g : Nat) (t l n : Int) (w : World) (h : Mt w g t l) :
    Calls Try.prog 39 #[.pointer (some ⟨g, 0, none⟩), .int .i64 n, .func (.func 40) #[.pointer (some ⟨g, 0, none⟩)] #[]] w fun e w' => e = .returned (.tuple #[]) ∧ Mt w' g (more t n) l ∧ But (· = g) w w' := by
  have h0 := h.total
  have f0 := h.free0
  have l0 := h.l0
  have lt := h.lt
  have t1 := h.t1
  have hm := more_fit n (by omega : 0 ≤ t) t1
  have hw : IntKind.i64.wrap (t + max 0 (min n (4611686018427387904 - t))) = more t n := (IntWalk.i64_in _ (by rw [more_code n (by omega) t1]; omega)).trans (more_code n (by omega) t1)
  have HB := Lib.hid fun k => bound_any g t l n (w.drewN k) (h.drewN k)
  have HM := Lib.hid hm
  clear hm
  go_enter Try.func39, Try.ntmps39
  go_region_with (go_at_call 40; refine (HB.out 1).mono ?_; rintro e w' ⟨rfl, rfl⟩)
  all_goals
    go_end0
    exact ⟨rfl, (h.drewN 1).set0 (by have := HM.out; omega) HM.out.2, ((But.refl (· = g) w).drewN 1).setCell (p := ⟨g, 0, none⟩) (fun _ => rfl) _⟩
theorem charge_any (g : Nat) (t l n : Int) (w : World) (h : Mt w g t l) :
    Calls Try.prog 26 #[.pointer (some ⟨g, 0, none⟩), .int .i64 n] w fun e w' => e = .returned (.tuple #[]) ∧ Mt w' g (more t n) l ∧ But (· = g) w w' := by
  have hmf : ∀ (fn : Fn) (first cap : Array Value) (w : World), (Instr.makeFunc fn first cap).run Try.prog w = .ok (.func fn first cap) w := fun _ _ _ _ => rfl
  go_enter Try.func26, Try.ntmps26
  go_wp2_with fail
  refine (count_any g t l n w h).mono ?_
  rintro e w' ⟨rfl, hm, hb⟩
  go_wp2
  go_end0
  exact ⟨rfl, hm, hb⟩
end Go.Proofs.Ytadljlkflmodiaa
