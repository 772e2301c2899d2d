import Derived.Test.YtijkigibcpgciaaZGC
import Derived.Test.YtijkigibcpgciaaZGB
import Derived.OwnWalk
/-
  The document's own answers for package page (almeryref12): New, With, Hole, Top, Used, Owner, over a slice of ints.
-/
namespace Go.Proofs.Ytijkigibcpgciaa.Pg
open Go.ChangeShapes Go.WideShapes Go.ChangeAt Go.RowKit Go.Deep
set_option maxRecDepth 100000

theorem fit_new (n : Nat) : ∀ x ∈ List.replicate n (-1 : Int), -9223372036854775808 ≤ x ∧ x ≤ 9223372036854775807 := fun x hx => by rw [List.eq_of_mem_replicate hx]; omega
theorem refPageNew_bad (n : Int) (h : n < 1 ∨ 512 < n) (w : World) :
    Calls Try.prog 16 #[.int .i64 n] w fun e w' => e = .returned (.tuple #[.slice none 0 0, .int .i64 1]) ∧ w = w' := by
  by_cases h1 : n < 1
  · have d1 : decide (n < 1) = true := decide_eq_true h1
    go_enter Try.func16, Try.ntmps16
    go_wp2
    go_ret2
    exact ⟨rfl, rfl⟩
  · have d1 : decide (n < 1) = false := decide_eq_false h1
    have d2 : decide (512 < n) = true := decide_eq_true (by omega)
    go_enter Try.func16, Try.ntmps16
    go_wp2
    go_ret2
    exact ⟨rfl, rfl⟩
/-- A row of the call's own that has k numbers -1. -/
structure Rw (w0 : World) (k : Nat) (v : Value) (w : World) : Prop where
  own : w.ownsRow w0.heap.size 3 1 v k ((List.replicate k (-1 : Int)).map (Value.int .i64))
  below : Below w0.heap.size w0 w
theorem refPageNew_ok (n : Nat) (h1 : 1 ≤ n) (h2 : n ≤ 512) (w : World) :
    Calls Try.prog 16 #[.int .i64 (n : Int)] w fun e w' => ∃ g c, e = .returned (.tuple #[.slice (some ⟨g, 0, none⟩) n c, .int .i64 0]) ∧ Ints w' w'.heap.size (some ⟨g, 0, none⟩) n (List.replicate n (-1)) ∧ w.heap.size ≤ g ∧ Below w.heap.size w w' := by
  have d1 : decide ((n : Int) < 1) = false := decide_eq_false (by omega)
  have d2 : decide (512 < (n : Int)) = false := decide_eq_false (by omega)
  have N0 : Hid (Rw w 0 (.slice none 0 0) w) := Lib.hid ⟨World.ownsRow_nil _ _ _ _, Below.refl _ _⟩
  go_enter Try.func16, Try.ntmps16
  go_wp2
  go_loopw [4, 5] (fun v i wr => ∃ k : Nat, k ≤ n ∧ i = .int .i64 k ∧ Hid (Rw w k v wr)) (fun _ i _ => n - (intOf i).toNat)
  case atStart => exact ⟨0, by omega, rfl, N0⟩
  case round =>
    obtain ⟨k, hk, rfl, HS⟩ := hrel
    clear N0
    by_cases hlt : k < n
    · have dk : decide ((k : Int) < (n : Int)) = true := by simp; omega
      obtain ⟨g, cap, w2, hr, ho, hg, hl⟩ := app_one HS.out.own HS.out.below.size (by omega) (-1) 31
      have HN : Hid (Rw w (k + 1) (.slice (some ⟨g, 0, none⟩) (k + 1) cap) w2) := Lib.hid ⟨by
        rw [List.replicate_succ']; exact ho, by
        refine Below.grown (HS.out.below.alloc HS.out.below.size _) hg ?_ (fun j hj => ?_)
        · have := HS.out.below.size
          simp
          omega
        · exact (HS.out.own.lt j hj).1⟩
      have R := Lib.hid hr
      clear hr ho hg hl HS
      go_wp2_with (at_builtin; refine wpList_append_run rfl _ _ rfl rfl rfl rfl R.out ?_)
      go_roundw
      case rel => exact ⟨k + 1, by omega, by go_num, HN⟩
      case measure => simp [intOf]; omega
    · have dk : decide ((k : Int) < (n : Int)) = false := by simp; omega
      obtain rfl : k = n := by omega
      obtain ⟨g, cap, hv, hb, hg⟩ := HS.out.own.form (by omega)
      subst hv
      have HE := Lib.hid (ints_own HS.out.own (by omega) (fit_new k)).1
      have HB := Lib.hid HS.out.below
      have HG := Lib.hid hb
      clear HS hb hg
      go_wp2
      go_ret2
      exact ⟨g, cap, rfl, HE.out, HG.out, HB.out⟩

section
variable {w : World} {b n c : Nat} {X : List Int}
theorem _root_.Go.Proofs.Ytijkigibcpgciaa.Ints.cell0Pg (h : Ints w w.heap.size (some ⟨b, 0, none⟩) n X) {k : Nat} (hk : k < n) : w.cell? ⟨b, k, none⟩ = some (.int .i64 (ow X k)) := by
  obtain ⟨b', o, e, _, hc⟩ := h.head (by omega)
  injection e with e
  injection e with e1 e2
  subst e1 e2
  have := hc k _ (ow_get (by rw [h.len]; exact hk))
  rwa [Nat.zero_add] at this
theorem _root_.Go.Proofs.Ytijkigibcpgciaa.Ints.setPg {w' : World} {g k : Nat} {v : Int} (h : Ints w w.heap.size (some ⟨g, 0, none⟩) n X) (hk : k < n) (hv : -9223372036854775808 ≤ v ∧ v ≤ 9223372036854775807) (hs : w.heap.size ≤ w'.heap.size) (h1 : w'.cell? ⟨g, k, none⟩ = some (.int .i64 v)) (h2 : ∀ j, j ≠ k → w'.cell? ⟨g, j, none⟩ = w.cell? ⟨g, j, none⟩) :
    Ints w' w'.heap.size (some ⟨g, 0, none⟩) n (X.set k v) := by
  have hl := h.len
  obtain ⟨b, o', e, hb, hc⟩ := h.head (by omega)
  injection e with e
  injection e with e1 e2
  subst e1 e2
  refine ⟨by rw [List.length_set]; exact hl, h.max, fun x hx => ?_, fun _ => ⟨g, 0, rfl, by omega, fun j s hj => ?_⟩⟩
  · rcases List.mem_or_eq_of_mem_set hx with q | q
    · exact h.2.2.1 x q
    · subst q; exact hv
  rw [Nat.zero_add]
  by_cases z : k = j
  · subst z
    rw [List.getElem?_set_self (by omega)] at hj
    cases hj
    exact h1
  · rw [List.getElem?_set_ne z] at hj
    have := hc j s hj
    rw [Nat.zero_add] at this
    exact (h2 j (fun q => z q.symm)).trans this
/-- How With ends. -/
def RefW (n : Nat) (X : List Int) (w : World) (e : Ending) (w' : World) : Prop :=
  ∃ g c, e = .returned (.slice (some ⟨g, 0, none⟩) n c) ∧ Ints w' w'.heap.size (some ⟨g, 0, none⟩) n X ∧ w.heap.size ≤ g ∧ Below w.heap.size w w'
set_option maxHeartbeats 1000000 in
theorem refWith_any (h : Ints w w.heap.size (some ⟨b, 0, none⟩) n X) (hn : n ≤ 512) (k : Nat) (hk : k < n) (v : Int) (hv : -9223372036854775808 ≤ v ∧ v ≤ 9223372036854775807) :
    Calls Try.prog 80 #[.slice (some ⟨b, 0, none⟩) n c, .int .i64 (k : Int), .int .i64 v] w (RefW n (X.set k v) w) := by
  have own0 : (w.alloc (.cells #[] 3)).ownsRow w.heap.size 3 1 (.slice (some ⟨w.heap.size, 0, none⟩) 0 0) 0 (([] : List Int).map (Value.int .i64)) := World.ownsRow_lit w #[] 0 (Nat.le_refl _) (by unfold maxLen; omega) rfl
  obtain ⟨g, cap, w5, hrun, hown, b5⟩ := app_ints (c := c) own0 (h.on (below1 w (.cells #[] 3))) (by simp) (by omega) 31
  rw [Nat.zero_add, List.nil_append] at hown
  rw [Nat.zero_add] at hrun
  obtain ⟨J5, hcap⟩ := ints_own hown (by omega) h.2.2.1
  have bb5 : Below w.heap.size w w5 := (below1 w _).trans b5
  have hg := hown.lt g rfl
  have m0 := J5.cell0Pg hk
  have m1 := hown.frozenAt k
  have b6 : But (· = g) w5 (w5.setCell ⟨g, k, none⟩ (.int .i64 v)) := (But.refl (· = g) w5).setCell (p := ⟨g, k, none⟩) (fun _ => rfl) _
  have J6 : Ints (w5.setCell ⟨g, k, none⟩ (.int .i64 v)) (w5.setCell ⟨g, k, none⟩ (.int .i64 v)).heap.size (some ⟨g, 0, none⟩) n (X.set k v) := by
    refine J5.setPg hk hv b6.size ?_ (fun j hj => ?_)
    · exact World.cell?_setCell_same w5 ⟨g, k, none⟩ (.int .i64 v) m0
    · exact World.cell?_setCell_other w5 ⟨g, k, none⟩ ⟨g, j, none⟩ _ (by simp <;> omega)
  have HJ := Lib.hid J6
  have HBB : Hid (Below w.heap.size w (w5.setCell ⟨g, k, none⟩ (.int .i64 v))) := Lib.hid (bb5.trans (b6.one bb5.size hg.1))
  have HG := Lib.hid hg.1
  have R := Lib.hid hrun
  have hki : (k : Int) < (n : Int) := by omega
  have hm := h.max
  generalize ow X k = z at m0
  clear J6 J5 hown own0 b6 bb5 hg b5 hrun h
  go_enter Try.func80, Try.ntmps80
  go_wp2_with (at_builtin; refine wpList_append_run rfl _ _ rfl rfl rfl rfl R.out ?_)
  go_ret
  exact ⟨g, cap, rfl, HJ.out, HG.out, HBB.out⟩
theorem refOwner_any (h : Ints w w.heap.size (some ⟨b, 0, none⟩) n X) (at_ : Int) :
    Calls Try.prog 66 #[.slice (some ⟨b, 0, none⟩) n c, .int .i64 at_] w (R1 (ownerOf X at_) w) := by
  have hl := h.len
  have hm := h.max
  cases q : inP X at_ with
  | false =>
    rw [ownerOf_off q]
    simp [inP, hl] at q
    clear h hl
    by_cases h0 : at_ < 0
    · have d0 : decide (at_ < 0) = true := decide_eq_true (by omega)
      clear q
      go_enter Try.func66, Try.ntmps66
      go_wp2
      go_ret
      exact ⟨rfl, rfl⟩
    · have d0 : decide (at_ < 0) = false := decide_eq_false (by omega)
      have d1 : decide ((n : Int) ≤ at_) = true := decide_eq_true (q (by omega))
      clear q
      go_enter Try.func66, Try.ntmps66
      go_wp2
      go_ret
      exact ⟨rfl, rfl⟩
  | true =>
    obtain ⟨k, rfl, hk⟩ := inP_in q
    rw [ownerOf_nat hk]
    have hc := h.cell0Pg (k := k) (by omega)
    have hki : (k : Int) < (n : Int) := by omega
    have d0 : decide ((k : Int) < 0) = false := decide_eq_false (by omega)
    have d1 : decide ((n : Int) ≤ (k : Int)) = false := decide_eq_false (by omega)
    generalize ow X k = z at hc ⊢
    clear q hk h hl
    go_enter Try.func66, Try.ntmps66
    go_wp2
    go_ret
    exact ⟨rfl, rfl⟩
theorem refHole_any (h : Ints w w.heap.size (some ⟨b, 0, none⟩) n X) :
    Calls Try.prog 61 #[.slice (some ⟨b, 0, none⟩) n c] w (R1 (holeOf X) w) := by
  have H := Lib.hid h
  have hm := h.max
  have HL := Lib.hid h.len
  clear h
  go_enter Try.func61, Try.ntmps61
  go_wp2
  go_loopw [3] (fun i wr => ∃ k : Nat, k ≤ n ∧ i = .int .i64 k ∧ Hid (∀ j, j < k → ow X j ≠ -1) ∧ wr = w) (fun i _ => n - (intOf i).toNat)
  case atStart => exact ⟨0, by omega, rfl, Lib.hid (fun j hj => by omega), rfl⟩
  case round =>
    obtain ⟨k, hk, rfl, HB, rfl⟩ := hrel
    by_cases hlt : k < n
    · have dk : decide ((k : Int) < (n : Int)) = true := by simp; omega
      have hc := H.out.cell0Pg hlt
      by_cases q : ow X k = -1
      · rw [q] at hc
        have E : Hid (holeOf X = (k : Int)) := Lib.hid (hole_at (by rw [HL.out]; exact hlt) q HB.out)
        clear q
        go_wp2
        rw [E.out]
        go_ret
        exact ⟨rfl, rfl⟩
      · have HN : Hid (∀ j, j < k + 1 → ow X j ≠ -1) := Lib.hid (fun j hj => by
          by_cases e : j = k
          · rw [e]; exact q
          · exact HB.out j (by omega))
        have dq : (ow X k == -1) = false := by simpa using q
        clear q
        generalize ow X k = z at hc dq
        go_wp2
        go_roundw
        case rel => exact ⟨k + 1, by omega, by go_num, HN, trivial⟩
        case measure => simp [intOf]; omega
    · have dk : decide ((k : Int) < (n : Int)) = false := by simp; omega
      have E : Hid (holeOf X = -1) := Lib.hid (hole_none fun j hj => HB.out j (by rw [HL.out] at hj; omega))
      go_wp2
      rw [E.out]
      go_ret
      exact ⟨rfl, rfl⟩
theorem refTop_any (h : Ints w w.heap.size (some ⟨b, 0, none⟩) n X) :
    Calls Try.prog 67 #[.slice (some ⟨b, 0, none⟩) n c] w (R1 (topOf X) w) := by
  have H := Lib.hid h
  have hm := h.max
  have HL := Lib.hid h.len
  clear h
  go_enter Try.func67, Try.ntmps67
  go_wp2
  go_loopw [3] (fun i wr => ∃ (k : Nat) (z : Int), k ≤ n ∧ z = (k : Int) - 1 ∧ i = .int .i64 z ∧ Hid (∀ j, k ≤ j → ow X j = -1) ∧ wr = w) (fun i _ => (intOf i + 1).toNat)
  case atStart => exact ⟨n, (n : Int) - 1, by omega, rfl, rfl, Lib.hid (fun j hj => ow_out (by rw [HL.out]; exact hj)), rfl⟩
  case round =>
    obtain ⟨k, z, hk, hz, rfl, HB, rfl⟩ := hrel
    cases k with
    | zero =>
      have dk : decide ((0 : Int) ≤ z) = false := by simp; omega
      have E : Hid (topOf X = -1) := Lib.hid (top_none fun j => HB.out j (by omega))
      go_wp2
      rw [E.out]
      go_ret
      exact ⟨rfl, rfl⟩
    | succ k =>
      obtain rfl : z = (k : Int) := by omega
      clear hz
      have dk : decide ((0 : Int) ≤ (k : Int)) = true := by simp
      have hlt : (k : Int) < (n : Int) := by omega
      have hc := H.out.cell0Pg (k := k) (by omega)
      by_cases q : ow X k = -1
      · have HN : Hid (∀ j, k ≤ j → ow X j = -1) := Lib.hid (fun j hj => by
          by_cases e : j = k
          · rw [e]; exact q
          · exact HB.out j (by omega))
        rw [q] at hc
        clear q
        go_wp2
        go_roundw
        case rel => exact ⟨k, (k : Int) - 1, by omega, rfl, by go_num, HN, trivial⟩
        case measure => simp [intOf] <;> omega
      · have E : Hid (topOf X = (k : Int)) := Lib.hid (top_at q fun j hj => HB.out j (by omega))
        have dq : (ow X k != -1) = true := by simpa using q
        clear q
        generalize ow X k = z at hc dq
        go_wp2
        rw [E.out]
        go_ret
        exact ⟨rfl, rfl⟩
theorem refUsed_any (h : Ints w w.heap.size (some ⟨b, 0, none⟩) n X) (hn : n ≤ 512) :
    Calls Try.prog 52 #[.slice (some ⟨b, 0, none⟩) n c] w (R1 ((usedN X : Nat) : Int) w) := by
  have H := Lib.hid h
  have HE : Hid (cntOf (usedL X) 0 n = usedN X) := Lib.hid (cnt_all (by rw [used_len, h.len]; omega))
  clear h
  go_enter Try.func52, Try.ntmps52
  go_wp2
  go_loopw [3, 4] (fun s i wr => ∃ k m : Nat, k ≤ n ∧ i = .int .i64 k ∧ s = .int .i64 m ∧ m ≤ 512 ∧ Hid (m = cntOf (usedL X) 0 k) ∧ wr = w) (fun _ i _ => n - (intOf i).toNat)
  case atStart => exact ⟨0, 0, by omega, rfl, rfl, by omega, Lib.hid (by simp [cntOf]), rfl⟩
  case round =>
    obtain ⟨k, m, hk, rfl, rfl, hm, HB, rfl⟩ := hrel
    by_cases hlt : k < n
    · have dk : decide ((k : Int) < (n : Int)) = true := by simp; omega
      have hc := H.out.cell0Pg hlt
      have HS : Hid (cntOf (usedL X) 0 (k + 1) = cntOf (usedL X) 0 k + (if bt (usedL X) k = true then 1 else 0) ∧ cntOf (usedL X) 0 (k + 1) ≤ k + 1) := Lib.hid (by
        have h1 := cnt_split (usedL X) 0 k 1
        have h2 := cnt_succ (usedL X) k 0
        rw [Nat.zero_add] at h1 h2
        have h3 : cntOf (usedL X) (k + 1) 0 = 0 := by simp [cntOf]
        exact ⟨by omega, cnt_le (usedL X) 0 (k + 1)⟩)
      rw [used_bt] at HS
      cases dq : (ow X k != -1) with
      | false =>
        rw [dq] at HS
        have HN : Hid (m = cntOf (usedL X) 0 (k + 1)) := Lib.hid (by have h1 := HS.out.1; have h2 := HB.out; simp at h1; omega)
        clear HS
        generalize ow X k = z at hc dq
        go_wp2
        go_roundw
        case rel => exact ⟨k + 1, m, by omega, by go_num, rfl, hm, HN, trivial⟩
        case measure => simp [intOf]; omega
      | true =>
        rw [dq] at HS
        have HN : Hid (m + 1 = cntOf (usedL X) 0 (k + 1)) := Lib.hid (by have h1 := HS.out.1; have h2 := HB.out; simp at h1; omega)
        have hm2 : m + 1 ≤ 512 := by have h1 := HS.out.2; have h2 := HN.out; omega
        clear HS
        generalize ow X k = z at hc dq
        go_wp2
        go_roundw
        case rel => exact ⟨k + 1, m + 1, by omega, by go_num, by go_num, hm2, HN, trivial⟩
        case measure => simp [intOf]; omega
    · have dk : decide ((k : Int) < (n : Int)) = false := by simp; omega
      obtain rfl : k = n := by omega
      have E : Hid (usedN X = m) := Lib.hid (by rw [HB.out, HE.out])
      go_wp2
      rw [E.out]
      go_ret
      exact ⟨rfl, rfl⟩
end
end Go.Proofs.Ytijkigibcpgciaa.Pg
