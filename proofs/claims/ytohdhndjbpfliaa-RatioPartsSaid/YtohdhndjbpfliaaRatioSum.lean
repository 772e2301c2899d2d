/-
  Sum and Mean of package ratio, what they call, and the document's own answers for them, each met by a contract: whatever slice of floats comes in, they return bits that stand for the plain 'sumO', 'meanO', and leave all memory that was there as it was.
-/
import Derived.Test.YtohdhndjbpfliaaRatioPart
import Derived.Test.YtohdhndjbpfliaaFloats
namespace Go.Proofs.Ytohdhndjbpfliaa
open Go.ChangeShapes Go.WideShapes Go.ChangeAt Go.RowKit

/-- It returns bits that stand for o, and leaves all memory that was there as it was. -/
def FB (o : Option Nat) (w : World) (e : Ending) (w' : World) : Prop := ∃ v, e = .returned (.float .f64 v) ∧ Rep o v ∧ Below w.heap.size w w'

/-- The closure: one float is added to what the cell holds. -/
theorem add_one (v x g : Nat) (w : World) (hc : w.cell? ⟨g, 0, none⟩ = some (.float .f64 v)) (hz : w.frozen? ⟨g, 0, none⟩ = false) :
    Calls Try.prog 27 #[.float .f64 x, .pointer (some ⟨g, 0, none⟩)] w fun e w' => e = .returned (.tuple #[]) ∧ ∃ u d, w' = (w.drewN d).setCell ⟨g, 0, none⟩ (.float .f64 u) ∧ Rep (plus v x) u := by
  obtain ⟨u, d, hr, hu⟩ := run_arith Try.prog .add (.inl rfl) v x w
  have HU : Rep (plus v x) u := hu
  clear hu
  have hst : ∀ (p : Addr) (y : Nat) (m : Mode) (v : World), (store p (.float .f64 y) m).run Try.prog v = stored Try.prog v p (.float .f64 y) m := fun p y m v => run_store Try.prog v p _ m rfl
  have hc' : (w.drewN d).cell? ⟨g, 0, none⟩ = some (.float .f64 v) := hc
  have hz' : (w.drewN d).frozen? ⟨g, 0, none⟩ = false := hz
  go_enter Try.func27, Try.ntmps27
  go_wp2
  go_end0
  exact ⟨rfl, u, d, rfl, HU⟩

/-- Where the sum of the first k stands in the cell. -/
structure SumTo (xs : List Nat) (g : Nat) (w : World) (k : Nat) (w' : World) : Prop where
  below : Below g w w'
  cell : ∃ u, w'.cell? ⟨g, 0, none⟩ = some (.float .f64 u) ∧ Rep (sumO (xs.take k)) u
  free : w'.frozen? ⟨g, 0, none⟩ = false
theorem SumTo.next {xs : List Nat} {g : Nat} {w w' : World} {k x u v d : Nat} (h : SumTo xs g w k w') (hx : xs[k]? = some x) (hc : w'.cell? ⟨g, 0, none⟩ = some (.float .f64 v)) (hv : Rep (sumO (xs.take k)) v) (hu : Rep (plus v x) u) :
    SumTo xs g w (k + 1) ((w'.drewN d).setCell ⟨g, 0, none⟩ (.float .f64 u)) where
  below := (belowN h.below d).setCell (Nat.le_refl _) _
  cell := ⟨u, World.cell?_setCell_same _ _ _ (u := .float .f64 v) hc, by rw [sumO_take hx, ← hv.plus]; exact hu⟩
  free := by simpa using h.free

theorem each_any (a : Option Addr) (n c : Nat) (xs : List Nat) (g : Nat) (w : World) (h : Floats w g a n xs) (h0 : SumTo xs g w 0 w) :
    Calls Try.prog 26 #[.slice a n c, .func (.func 27) #[] #[.pointer (some ⟨g, 0, none⟩)]] w fun e w' => e = .returned (.tuple #[]) ∧ SumTo xs g w n w' := by
  have hmax := h.max
  go_enter Try.func26, Try.ntmps26
  go_wp2
  go_loopw [8] (fun i wr => ∃ k : Nat, k ≤ n ∧ i = .int .i64 k ∧ SumTo xs g w k wr) (fun i _ => n - (intOf i).toNat)
  case atStart => exact ⟨0, Nat.zero_le _, rfl, h0⟩
  case round =>
    obtain ⟨k, hk, rfl, hs⟩ := hrel
    by_cases hlt : k < n
    · have hF : Floats wr g a n xs := h.below hs.below
      obtain ⟨x, hx, x1⟩ := hF.at_ hlt
      obtain ⟨b, o, rfl, hb, hc⟩ := hF.head (by omega)
      have hcell := hc k x hx
      have HX := Lib.hid hx
      obtain ⟨v, hv, hrv⟩ := hs.cell
      have HV := Lib.hid hv
      have HZ := Lib.hid hs.free
      have HA := Lib.hid (add_one v x g wr hv hs.free)
      clear hc hx hF hv
      go_wp2_with fail
      refine HA.out.mono ?_
      rintro e w2 ⟨rfl, u, d, rfl, hu⟩
      have HN := hs.next (d := d) HX.out HV.out hrv hu
      go_wp2
      go_roundw
      case rel => exact ⟨k + 1, by omega, by go_num, HN⟩
      case measure => simp [intOf]; omega
    · have e : k = n := by omega
      subst e
      go_wp2
      go_end0
      exact ⟨rfl, hs⟩

theorem SumTo.done {xs : List Nat} {g n : Nat} {w w' : World} (h : SumTo xs g w n w') (hn : xs.length = n) : ∃ u, w'.cell? ⟨g, 0, none⟩ = some (.float .f64 u) ∧ Rep (sumO xs) u := by
  obtain ⟨u, h1, h2⟩ := h.cell
  rw [List.take_of_length_le (by omega)] at h2
  exact ⟨u, h1, h2⟩

theorem sum_any (a : Option Addr) (n c : Nat) (xs : List Nat) (w : World) (h : Floats w w.heap.size a n xs) :
    Calls Try.prog 17 #[.slice a n c] w (FB (sumO xs) w) := by
  have hmf : ∀ (fn : Fn) (first cap : Array Value) (w : World), (Instr.makeFunc fn first cap).run Try.prog w = .ok (.func fn first cap) w := fun _ _ _ _ => rfl
  have hst : ∀ (p : Addr) (y : Nat) (m : Mode) (v : World), (store p (.float .f64 y) m).run Try.prog v = stored Try.prog v p (.float .f64 y) m := fun p y m v => run_store Try.prog v p _ m rfl
  have HL := Lib.hid h.len
  go_enter Try.func17, Try.ntmps17
  go_wp2_with fail
  refine (each_any a n c xs w.heap.size _ ?_ ?_).mono ?_
  · exact h.alloc (Nat.le_refl _) _
  · exact ⟨Below.refl _ _, ⟨0, by simp, rep_zero⟩, by simp⟩
  rintro e w' ⟨rfl, hs⟩
  obtain ⟨u, hc, hu⟩ := hs.done HL.out
  go_wp2
  go_ret
  exact ⟨u, rfl, hu, (below1 w _).trans hs.below⟩

theorem refSum_any (a : Option Addr) (n c : Nat) (xs : List Nat) (B : Nat) (w : World) (h : Floats w B a n xs) :
    Calls Try.prog 18 #[.slice a n c] w (FQ (sumO xs) w) := by
  have hmax := h.max
  have HL := Lib.hid h.len
  go_enter Try.func18, Try.ntmps18
  go_wp2
  go_loopw [3, 4] (fun t i wr => ∃ k v : Nat, k ≤ n ∧ i = .int .i64 k ∧ t = .float .f64 v ∧ Rep (sumO (xs.take k)) v ∧ ∃ d, wr = w.drewN d) (fun _ i _ => n - (intOf i).toNat)
  case atStart => exact ⟨0, 0, Nat.zero_le _, rfl, rfl, rep_zero, 0, rfl⟩
  case round =>
    obtain ⟨k, v, hk, rfl, rfl, hv, d, rfl⟩ := hrel
    by_cases hlt : k < n
    · obtain ⟨x, hx, x1⟩ := h.at_ hlt
      obtain ⟨b, o, rfl, hb, hc⟩ := h.head (by omega)
      have hcell : (w.drewN d).cell? ⟨b, o + k, none⟩ = some (.float .f64 x) := hc k x hx
      obtain ⟨u, d2, hr, hu⟩ := run_arith Try.prog .add (.inl rfl) v x (w.drewN d)
      have HU : Hid (Rep (sumO (xs.take (k + 1))) u) := Lib.hid (by rw [sumO_take hx, ← hv.plus]; exact hu)
      clear hc hx hu
      go_wp2
      go_roundw
      case rel => exact ⟨k + 1, u, by omega, by go_num, rfl, HU.out, _, rfl⟩
      case measure => simp [intOf]; omega
    · have e : k = n := by omega
      have HU : Hid (Rep (sumO xs) v) := Lib.hid (by rw [List.take_of_length_le (by rw [HL.out]; omega)] at hv; exact hv)
      subst e
      go_wp2
      go_ret
      exact ⟨v, rfl, HU.out, d, rfl⟩

theorem mean_any (a : Option Addr) (n c : Nat) (xs : List Nat) (w : World) (h : Floats w w.heap.size a n xs) :
    Calls Try.prog 19 #[.slice a n c] w (FB (meanO xs) w) := by
  have hmax := h.max
  have HL := Lib.hid h.len
  go_enter Try.func19, Try.ntmps19
  go_wp2_with fail
  refine (sum_any a n c xs w h).mono ?_
  rintro e w' ⟨v, rfl, hv, hb⟩
  obtain ⟨u, d, hr, hu⟩ := run_arith Try.prog .quo (.inr rfl) v (floatOfInt .f64 n) w'
  have HU : Hid (Rep (meanO xs) u) := Lib.hid (by unfold meanO; rw [HL.out, ← hv.by_]; exact hu)
  clear hu hv
  go_wp2
  go_ret
  exact ⟨u, rfl, HU.out, belowN hb d⟩

theorem refMean_any (a : Option Addr) (n c : Nat) (xs : List Nat) (B : Nat) (w : World) (h : Floats w B a n xs) :
    Calls Try.prog 20 #[.slice a n c] w (FQ (meanO xs) w) := by
  have hmax := h.max
  have HL := Lib.hid h.len
  go_enter Try.func20, Try.ntmps20
  go_wp2_with fail
  refine (refSum_any a n c xs B w h).mono ?_
  rintro e w' ⟨v, rfl, hv, d1, rfl⟩
  obtain ⟨u, d, hr, hu⟩ := run_arith Try.prog .quo (.inr rfl) v (floatOfInt .f64 n) (w.drewN d1)
  have HU : Hid (Rep (meanO xs) u) := Lib.hid (by unfold meanO; rw [HL.out, ← hv.by_]; exact hu)
  clear hu hv
  go_wp2
  go_ret
  exact ⟨u, rfl, HU.out, _, rfl⟩
end Go.Proofs.Ytohdhndjbpfliaa
