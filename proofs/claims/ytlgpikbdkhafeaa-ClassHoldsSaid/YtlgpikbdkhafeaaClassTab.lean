/-
  Table and Look of package class, met by contracts: of sizes whose last one is from 1 to 4096, Table lays the plain list 'table' in new memory; Look returns the plain number 'look' of any list of ints.
-/
import Derived.Test.YtlgpikbdkhafeaaClassMay
import Derived.Deep.OwnRows
import Derived.StillTailTactics
import Derived.IntWalk
import Derived.Deep.RegionWith
namespace Go.Proofs.Ytlgpikbdkhafeaa
open Go.ChangeShapes Go.WideShapes Go.ChangeAt Go.RowKit

theorem infoInt : (Try.prog.info? 3).map (fun i => (i.zero, i.size, i.bytes)) = some (some (.int .i64 0), 1, 8) := by kernel_rfl

/-- A table of m entries, laid in a new block. -/
def Tab (xs : List Int) (m : Nat) (w : World) (e : Ending) (w' : World) : Prop :=
  ∃ g, w.heap.size ≤ g ∧ e = .returned (.slice (some ⟨g, 0, none⟩) m m) ∧ Ints w' w'.heap.size (some ⟨g, 0, none⟩) m (table xs m) ∧ Below w.heap.size w w'

/-- One entry is laid: what the closure does. -/
def Laid1 (g k : Nat) (v : Int) (w : World) (e : Ending) (w' : World) : Prop := e = .returned (.tuple #[]) ∧ ∃ d, w' = (w.drewN d).setCell ⟨g, k, none⟩ (.int .i64 v)

theorem fill_one (a : Option Addr) (n c : Nat) (xs : List Int) (k m g p1 p2 : Nat) (B : Nat) (w : World) (v0 : Value) (h : Ints w B a n xs) (hk : k < m) (hm : m ≤ 513)
    (hc1 : w.cell? ⟨p1, 0, none⟩ = some (.slice a n c)) (hc2 : w.cell? ⟨p2, 0, none⟩ = some (.slice (some ⟨g, 0, none⟩) m m)) (hc3 : w.cell? ⟨g, k, none⟩ = some v0) (hz : w.frozen? ⟨g, k, none⟩ = false) :
    Calls Try.prog 21 #[.int .i64 k, .pointer (some ⟨p1, 0, none⟩), .pointer (some ⟨p2, 0, none⟩)] w (Laid1 g k (pick xs (8 * (k : Int))) w) := by
  have hk' : (k : Int) < (m : Int) := by omega
  have hk8 : IntKind.i64.wrap ((k : Int) * 8) = (k : Int) * 8 := IntWalk.i64_in _ (by omega)
  rw [show 8 * (k : Int) = (k : Int) * 8 from by omega]
  have HP := Lib.hid (fun v (hv : Ints v B a n xs) => pick_any a n c xs ((k : Int) * 8) B v hv)
  have HI := Lib.hid h
  clear h
  go_enter Try.func21, Try.ntmps21
  go_region_with ((go_at_call 11; refine (HP.out _ (by exact HI.out)).mono ?_; rintro e w' ⟨rfl, rfl⟩))
  all_goals (go_end0; exact ⟨rfl, 1, rfl⟩)

/-- The first k of m entries are laid, in block g. -/
def Fill (xs : List Int) (g m k : Nat) (w : World) : Prop := w.rowIs g 3 m (fun j => .int .i64 (if j < k then pick xs (8 * (j : Int)) else 0))

theorem tab_of (xs : List Int) (g m : Nat) (w : World) (h : Fill xs g m m w) (hm : m ≤ 9223372036854775807) (hx : xs.length ≤ 9223372036854775807) : Ints w w.heap.size (some ⟨g, 0, none⟩) m (table xs m) := by
  refine ⟨table_length _ _, hm, fun x hx' => ?_, fun _ => ⟨g, 0, rfl, h.lt, fun k s hs => ?_⟩⟩
  · obtain ⟨i, _, rfl⟩ := List.mem_map.1 hx'
    have := pick_bounds xs (8 * (i : Int))
    omega
  · have hk : k < m := by
      obtain ⟨g1, _⟩ := List.getElem?_eq_some_iff.1 hs
      rw [table_length] at g1
      exact g1
    rw [table_at xs hk] at hs
    injection hs with hs
    have := h.cell hk
    simp only [hk, if_true, hs] at this
    simpa using this

set_option maxRecDepth 100000 in
theorem table_any (a : Option Addr) (n c : Nat) (xs : List Int) (l : Int) (w : World) (h : Ints w w.heap.size a n xs) (hl : xs[n - 1]? = some l) (h1 : 1 ≤ l) (h2 : l ≤ 4096) :
    Calls Try.prog 15 #[.slice a n c] w (Tab xs ((l / 8).toNat + 1) w) := by
  have hmax := h.max
  have hlen := h.len
  have hn : 1 ≤ n := by
    obtain ⟨g, _⟩ := List.getElem?_eq_some_iff.1 hl
    omega
  have hz : ((n : Int) == 0) = false := by simp; omega
  obtain ⟨b, o, rfl, hb, hc⟩ := h.head (by omega)
  have hcell := hc (n - 1) l hl
  have hx : ((n : Int) - 1).toNat = n - 1 := by omega
  obtain ⟨q, hq⟩ := Int.eq_ofNat_of_zero_le (show 0 ≤ l / 8 by omega)
  have hq1 : q ≤ 512 := by omega
  have HQ := Lib.hid hq
  have HX := Lib.hid hl
  have HC := Lib.hid hc
  have HL := Lib.hid hlen
  have HW : ∀ v, Calls Try.prog 20 #[.int .i64 l, .int .i64 8] v (F2 (q : Int) v) := fun v => by
    have g := whole_any l 8 v (by omega)
    rw [whole_on h1 (by omega), hq] at g
    exact g
  rw [hq, Int.toNat_natCast]
  have H := Lib.hid HW
  clear HW hq hl hc hlen
  go_enter Try.func15, Try.ntmps15
  go_wp2_with fail
  refine (H.out _).mono ?_
  rintro e w1 ⟨rfl, f1⟩
  have hf := f1.below
  have hbox : w1.cell? ⟨w.heap.size, 0, none⟩ = some (.slice (some ⟨b, o, none⟩) n c) := (hf.cell (p := ⟨w.heap.size, 0, none⟩) (by simp)).trans (by simp)
  have hmk := run_make_row' (P := Try.prog) 22 3 (.int .i64 0) 8 Try.underlying22 infoInt rfl .i64 .i64 (q + 1) (by omega) (by omega)
  rw [show ((q + 1 : Nat) : Int) = (q : Int) + 1 from by omega] at hmk
  have hge : decide ((2147483647 : Int) ≤ (q : Int)) = false := decide_eq_false (by omega)
  go_wp2
  go_loopw [25] (fun i wr => ∃ k : Nat, k ≤ q + 1 ∧ i = .int .i64 k ∧ Fill xs (w1.heap.size) (q + 1) k wr ∧ wr.cell? ⟨w.heap.size, 0, none⟩ = some (.slice (some ⟨b, o, none⟩) n c)
      ∧ wr.cell? ⟨w1.heap.size + 1, 0, none⟩ = some (.slice (some ⟨w1.heap.size, 0, none⟩) (q + 1) (q + 1)) ∧ Below w1.heap.size w1 wr) (fun i _ => (q + 1) - (intOf i).toNat)
  case atStart =>
    refine ⟨0, Nat.zero_le _, rfl, ?_, ?_, by simp, ?_⟩
    · exact ((World.rowIs_made w1 (.int .i64 0) (q + 1) 3).alloc _).congr (fun j _ => by simp)
    · rw [World.cell?_alloc_past _ _ _ (by have := hf.size; simp at this; simp; omega), World.cell?_alloc_past _ _ _ (by have := hf.size; simp at this; omega)]
      exact hbox
    · exact ((Below.refl _ _).alloc (Nat.le_refl _) _).alloc (by simp) _
  case round =>
    obtain ⟨k, hk, rfl, hfill, hc1, hc2, hbl⟩ := hrel
    by_cases hlt : k < q + 1
    · have hlt' : (k : Int) < (q : Int) + 1 := by omega
      have hgc := hfill.cell (i := k) hlt
      have hgz := hfill.frozen k
      have hsz : w.heap.size + 1 ≤ w1.heap.size := by have := hf.size; simpa using this
      have hI : Ints wr w.heap.size (some ⟨b, o, none⟩) n xs := by
        have g1 : Ints (w.alloc (Obj.cells #[Value.slice (some ⟨b, o, none⟩) n c] 22)) w.heap.size (some ⟨b, o, none⟩) n xs := h.alloc (Nat.le_refl _) _
        exact (g1.below (hf.mono (by simp))).below (hbl.mono (by omega))
      have HF := Lib.hid (fill_one (some ⟨b, o, none⟩) n c xs k (q + 1) w1.heap.size w.heap.size (w1.heap.size + 1) w.heap.size wr _ hI hlt (by omega) hc1 hc2 hgc hgz)
      have HFL := Lib.hid hfill
      have HC1 := Lib.hid hc1
      have HC2 := Lib.hid hc2
      clear hgc hgz hI hc1 hc2 hbox hfill
      go_wp2_with fail
      refine HF.out.mono ?_
      rintro e w2 ⟨rfl, d, rfl⟩
      go_wp2
      go_roundw
      case rel =>
        refine ⟨k + 1, by omega, by go_num, ?_, ?_, ?_, ?_⟩
        · exact (HFL.out.set k _).congr (fun j _ => by
            by_cases e : j = k
            · subst e; simp
            · by_cases g : j < k
              · simp [e, g, show j < k + 1 by omega]
              · simp [e, g, show ¬ j < k + 1 by omega])
        · exact (World.cell?_setCell_other _ _ _ _ (fun e => by injection e with e1; omega)).trans HC1.out
        · exact (World.cell?_setCell_other _ _ _ _ (fun e => by injection e with e1; omega)).trans HC2.out
        · exact hbl.trans ⟨rfl, rfl, rfl, by simp [World.setCell], fun i hi => Below.heap_setCell _ _ _ _ (by show i ≠ w1.heap.size; omega)⟩
      case measure => simp [intOf]; omega
    · have hkq : k = q + 1 := by omega
      subst hkq
      have hsz : w.heap.size + 1 ≤ w1.heap.size := by have := hf.size; simpa using this
      have HT := Lib.hid (tab_of xs w1.heap.size (q + 1) wr hfill (by omega) (by rw [HL.out]; exact hmax))
      have hB : Below w.heap.size w wr := by
        have g1 : Below w.heap.size w (w.alloc (Obj.cells #[Value.slice (some ⟨b, o, none⟩) n c] 22)) := (Below.refl _ _).alloc (Nat.le_refl _) _
        exact (g1.trans (hf.mono (by simp))).trans (hbl.mono (by omega))
      go_wp2
      go_ret
      exact ⟨w1.heap.size, by omega, rfl, HT.out, hB⟩
end Go.Proofs.Ytlgpikbdkhafeaa
