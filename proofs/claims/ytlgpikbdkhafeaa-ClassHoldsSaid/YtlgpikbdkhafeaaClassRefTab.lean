/-
  The document's own Table (almeryref02.Table), met by a contract: of sizes whose last one is from 1 to 4096 it lays the plain list 'table' in new memory.
-/
import Derived.Test.YtlgpikbdkhafeaaClassLook
namespace Go.Proofs.Ytlgpikbdkhafeaa
open Go.ChangeShapes Go.WideShapes Go.ChangeAt Go.RowKit

/-- The slice value v holds the list ts of m numbers in new memory; all that was there is as it was. -/
def Lays (ts : List Int) (m : Nat) (w : World) (e : Ending) (w' : World) : Prop :=
  ∃ g cap, e = .returned (.slice (some ⟨g, 0, none⟩) m cap) ∧ Ints w' w'.heap.size (some ⟨g, 0, none⟩) m ts ∧ Below w.heap.size w w'

/-- What an own row of numbers is, in the word of this text. -/
theorem Ints.of_own {w : World} {base : Nat} {e : TypeId} {v : Value} {n : Nat} {ts : List Int} (h : w.ownsRow base e 1 v n (ts.map (Value.int .i64))) (hn : 0 < n) (hm : n ≤ 9223372036854775807)
    (hf : ∀ x ∈ ts, -9223372036854775808 ≤ x ∧ x ≤ 9223372036854775807) : ∃ g cap, v = .slice (some ⟨g, 0, none⟩) n cap ∧ base ≤ g ∧ Ints w w.heap.size (some ⟨g, 0, none⟩) n ts := by
  obtain ⟨g, cap, rfl, hb, hg⟩ := h.form hn
  have hlen : ts.length = n := by have := h.1; simpa using this
  refine ⟨g, cap, rfl, hb, hlen, hm, hf, fun _ => ⟨g, 0, rfl, hg, fun k s hs => ?_⟩⟩
  obtain ⟨hk, _⟩ := List.getElem?_eq_some_iff.1 hs
  have := h.cellAt k (by omega)
  rw [List.getElem?_map, hs] at this
  simpa using this

theorem table_succ (xs : List Int) (k : Nat) : table xs (k + 1) = table xs k ++ [pick xs (8 * (k : Int))] := by
  simp [table, List.range_succ]
theorem table_one (xs : List Int) : table xs 1 = [-1] := by
  simp [table, pick]

theorem refTable_any (a : Option Addr) (n c : Nat) (xs : List Int) (l : Int) (w : World) (h : Ints w w.heap.size a n xs) (hl : xs[n - 1]? = some l) (h1 : 1 ≤ l) (h2 : l ≤ 4096) :
    Calls Try.prog 17 #[.slice a n c] w (Lays (table xs ((l / 8).toNat + 1)) ((l / 8).toNat + 1) w) := by
  have hmax := h.max
  have hlen := h.len
  have hn : 1 ≤ n := by
    obtain ⟨g, _⟩ := List.getElem?_eq_some_iff.1 hl
    omega
  obtain ⟨b, o, rfl, hb, hc⟩ := h.head (by omega)
  have hcell := hc (n - 1) l hl
  have hx : ((n : Int) - 1).toNat = n - 1 := by omega
  obtain ⟨q, hq⟩ := Int.eq_ofNat_of_zero_le (show 0 ≤ l / 8 by omega)
  have hq1 : q ≤ 512 := by omega
  have HQ := Lib.hid hq
  have HL := Lib.hid hlen
  rw [hq, Int.toNat_natCast]
  obtain ⟨i0, hi, hz0, hz1, hz2⟩ := info_parts infoInt
  clear hq hl hc hlen
  go_enter Try.func17, Try.ntmps17
  go_wp2
  go_loopw [3, 4] (fun v i wr => ∃ k : Nat, 1 ≤ k ∧ k ≤ q + 1 ∧ i = .int .i64 k ∧ wr.ownsRow w.heap.size 3 1 v k ((table xs k).map (Value.int .i64)) ∧ Below w.heap.size w wr) (fun _ i _ => (q + 1) - (intOf i).toNat)
  case atStart =>
    refine ⟨1, Nat.le_refl _, by omega, rfl, ?_, (Below.refl _ _).alloc (Nat.le_refl _) _⟩
    rw [table_one]
    exact World.ownsRow_lit w #[.int .i64 (-1)] 1 (Nat.le_refl _) (by unfold maxLen; omega) rfl
  case round =>
    obtain ⟨k, hk1, hk2, rfl, hown, hbl⟩ := hrel
    have hI : Ints wr w.heap.size (some ⟨b, o, none⟩) n xs := h.below hbl
    have hcw : wr.cell? ⟨b, o + (n - 1), none⟩ = some (.int .i64 l) := (hbl.cell (p := ⟨b, o + (n - 1), none⟩) hb).trans hcell
    have hsz := hbl.size
    by_cases hlt : k ≤ q
    · have hle : (k : Int) ≤ l / 8 := by rw [HQ.out]; omega
      have HP := Lib.hid (refPick_any (some ⟨b, o, none⟩) n c xs (8 * (k : Int)) w.heap.size wr hI)
      have pb := pick_bounds xs (8 * (k : Int))
      clear hI
      go_wp2_with fail
      refine HP.out.mono ?_
      rintro e w2 ⟨rfl, rfl⟩
      go_wp2_with (at_builtin; refine wpList_append_own _ rfl _ _ 22 rfl w.heap.size 3 i0 (.int .i64 0) 1 8 Try.underlying22 hi hz0 hz1 hz2 rfl (by decide) _ _ _ rfl (hown.alloc _) ⟨wr.heap.size, 0, none⟩ 1 1 [.int .i64 (pick xs (8 * (k : Int)))] rfl rfl ?c1 ?c2 ?c3 ?c4 ?c5 ?_)
      case c1 =>
        intro j u hj
        match j, hj with
        | 0, hj => simp at hj; subst hj; simp [Addr.add]
      case c2 => intro u hu; simp at hu; subst hu; rfl
      case c3 => unfold maxLen; omega
      case c4 => omega
      case c5 => simp; omega
      intro v' w3 hown' hgrow _
      have hown2 : w3.ownsRow w.heap.size 3 1 v' (k + 1) ((table xs (k + 1)).map (Value.int .i64)) := by
        rw [table_succ, List.map_append]
        exact hown'
      have hbl3 : Below w.heap.size w w3 := (hbl.alloc hsz _).grown hgrow (by simp; omega) (fun g hg => (hown.lt g hg).1)
      clear hown' hgrow hown hcw
      go_wp2
      go_roundw
      case rel => exact ⟨k + 1, by omega, by omega, by go_num, hown2, hbl3⟩
      case measure => simp [intOf]; omega
    · have e : k = q + 1 := by omega
      subst e
      have hle : ¬ ((q : Int) + 1 ≤ l / 8) := by rw [HQ.out]; omega
      have hfit : ∀ x ∈ table xs (q + 1), -9223372036854775808 ≤ x ∧ x ≤ 9223372036854775807 := fun x hx' => by
        obtain ⟨i, _, rfl⟩ := List.mem_map.1 hx'
        have := pick_bounds xs (8 * (i : Int))
        rw [HL.out] at this
        omega
      obtain ⟨g, cap, rfl, hg, hI2⟩ := Ints.of_own hown (by omega) (by omega) hfit
      have HI := Lib.hid hI2
      clear hfit hI2 hI
      go_wp2
      go_ret
      exact ⟨g, cap, rfl, HI.out, hbl⟩
end Go.Proofs.Ytlgpikbdkhafeaa
