import Derived.Test.YtfkegbipfekbdaaZRnSt
import Derived.OwnWalk
import Derived.Laws.OwnMore
/-
  Package ring: New, met by contracts.
-/
namespace Go.Proofs.Ytfkegbipfekbdaa.Rn
open Go.ChangeShapes Go.WideShapes Go.ChangeAt Go.RowKit
set_option maxRecDepth 100000

/-- Nodes and lists that may be. -/
def mayB (n m : Int) : Bool := (decide (1 ≤ n) && decide (n ≤ 4096)) && (decide (1 ≤ m) && decide (m ≤ 64))
theorem new_bad (n m : Int) (w : World) (h : mayB n m = false) :
    Calls Try.prog 54 #[.int .i64 n, .int .i64 m] w fun e w' => e = .returned (.tuple #[.pointer none, .int .i64 1]) ∧ w = w' := by
  cases d1 : (decide (1 ≤ n) && decide (n ≤ 4096)) with
  | false =>
    go_enter Try.func54, Try.ntmps54
    go_wp2_with fail
    refine (within_any n 1 4096 w).mono ?_
    rw [d1]
    rintro e w' ⟨rfl, rfl⟩
    go_wp2
    go_ret2
    exact ⟨rfl, rfl⟩
  | true =>
    have d2 : (decide (1 ≤ m) && decide (m ≤ 64)) = false := by unfold mayB at h; rw [d1] at h; exact h
    clear h
    go_enter Try.func54, Try.ntmps54
    go_wp2_with fail
    refine (within_any n 1 4096 w).mono ?_
    rw [d1]
    rintro e w' ⟨rfl, rfl⟩
    go_wp2_with fail
    refine (within_any m 1 64 w).mono ?_
    rw [d2]
    rintro e w' ⟨rfl, rfl⟩
    go_wp2
    go_ret2
    exact ⟨rfl, rfl⟩

/-- A block of cells that are all 0. -/
def noughts (n : Nat) (t : TypeId) : Obj := .cells (madeCells #[.int .i64 0, .int .i64 0, .int .i64 0] (n * 3)) t
theorem make_nodes (n : Nat) (hn : n ≤ 4096) (v : World) :
    (Instr.makeSlice 117 (.int .i64 (n : Int)) (.int .i64 (n : Int))).run Try.prog v = .ok (.slice (some ⟨v.heap.size, 0, none⟩) n n) (v.alloc (noughts n 123)) := by
  obtain ⟨i, hi, hz, hs, hb⟩ : ∃ i, Try.prog.info? 123 = some i ∧ i.zero = some (.agg #[.int .i64 0, .int .i64 0, .int .i64 0]) ∧ i.size = 3 ∧ i.bytes = 24 := ⟨_, rfl, by kernel_rfl, by kernel_rfl, by kernel_rfl⟩
  rw [run_make v 117 123 i _ Try.underlying117 hi hz .i64 .i64 n n (by omega) (by omega) (by rw [hb]; omega) (by omega)]
  simp [hs, noughts, Value.cells]
theorem make_lists (n : Nat) (hn : n ≤ 64) (v : World) :
    (Instr.makeSlice 118 (.int .i64 (n : Int)) (.int .i64 (n : Int))).run Try.prog v = .ok (.slice (some ⟨v.heap.size, 0, none⟩) n n) (v.alloc (noughts n 128)) := by
  obtain ⟨i, hi, hz, hs, hb⟩ : ∃ i, Try.prog.info? 128 = some i ∧ i.zero = some (.agg #[.int .i64 0, .int .i64 0, .int .i64 0]) ∧ i.size = 3 ∧ i.bytes = 24 := ⟨_, rfl, by kernel_rfl, by kernel_rfl, by kernel_rfl⟩
  rw [run_make v 118 128 i _ Try.underlying118 hi hz .i64 .i64 n n (by omega) (by omega) (by rw [hb]; omega) (by omega)]
  simp [hs, noughts, Value.cells]
theorem noughts_cell (w : World) (n : Nat) (t : TypeId) (q : Nat) (hq : q < n * 3) : (w.alloc (noughts n t)).cell? ⟨w.heap.size, q, none⟩ = some (.int .i64 0) := by
  have hh : (w.alloc (noughts n t)).heap[w.heap.size]? = some (noughts n t) := by simp only [World.alloc, Array.getElem?_push, if_true]
  rw [World.cell?, hh]
  have h3 : q % 3 = 0 ∨ q % 3 = 1 ∨ q % 3 = 2 := by omega
  rcases h3 with e | e | e <;> simp [noughts, madeCells, hq, e]
theorem noughts_free (w : World) (n : Nat) (t : TypeId) (q : Nat) : (w.alloc (noughts n t)).frozen? ⟨w.heap.size, q, none⟩ = false := by
  have hh : (w.alloc (noughts n t)).heap[w.heap.size]? = some (noughts n t) := by simp only [World.alloc, Array.getElem?_push, if_true]
  rw [World.frozen?, hh]
  simp [noughts]

/-- The nodes, k of which are laid; the lists, k of which are laid. -/
def minus (k q : Nat) : Int := if q < k * 3 then -1 else 0
def blank (k q : Nat) : Int := if q < k * 3 ∧ q % 3 ≠ 2 then -1 else 0
theorem new_one (w : World) (N M : Nat) (h1 : 1 ≤ N) (h2 : N ≤ 4096) (h3 : 1 ≤ M) (h4 : M ≤ 64) :
    Rm (((w.alloc (noughts N 123)).alloc (noughts M 128)).alloc (.cells #[.slice (some ⟨w.heap.size, 0, none⟩) N N, .slice (some ⟨w.heap.size + 1, 0, none⟩) M M] 120)).drew (w.heap.size + 1 + 1) w.heap.size (w.heap.size + 1) N M (minus 0) (blank 0) := by
  have e1 : (w.alloc (noughts N 123)).heap.size = w.heap.size + 1 := by simp
  have hb := below2 (w.alloc (noughts N 123)) (noughts M 128) (.cells #[.slice (some ⟨w.heap.size, 0, none⟩) N N, .slice (some ⟨w.heap.size + 1, 0, none⟩) M M] 120)
  have hc := below1 ((w.alloc (noughts N 123)).alloc (noughts M 128)) (.cells #[.slice (some ⟨w.heap.size, 0, none⟩) N N, .slice (some ⟨w.heap.size + 1, 0, none⟩) M M] 120)
  refine ⟨by go_simp, by go_simp, fun q hq => ?_, fun q hq => ?_, fun q hq => ?_, fun q hq => ?_, by omega, by omega, by omega, h1, h2, h3, h4⟩
  · exact (hb.cell (p := ⟨w.heap.size, q, none⟩) (by rw [e1]; show w.heap.size < _; omega)).trans ((noughts_cell w N _ q hq).trans (by simp [minus]))
  · exact ((Below.but hb fun _ => False).frozen (p := ⟨w.heap.size, q, none⟩) (by rw [e1]; show w.heap.size < _; omega) id).trans (noughts_free w N _ q)
  · have := noughts_cell (w.alloc (noughts N 123)) M 128 q hq
    rw [e1] at this
    exact (hc.cell (p := ⟨w.heap.size + 1, q, none⟩) (by simp)).trans (this.trans (by simp [blank]))
  · have := noughts_free (w.alloc (noughts N 123)) M 128 q
    rw [e1] at this
    exact ((Below.but hc fun _ => False).frozen (p := ⟨w.heap.size + 1, q, none⟩) (by simp) id).trans this
theorem new_two (w : World) (N M : Nat) (h1 : 1 ≤ N) (h2 : N ≤ 4096) (h3 : 1 ≤ M) (h4 : M ≤ 64) :
    Rm (((w.alloc (noughts M 128)).alloc (noughts N 123)).alloc (.cells #[.slice (some ⟨w.heap.size + 1, 0, none⟩) N N, .slice (some ⟨w.heap.size, 0, none⟩) M M] 120)).drew (w.heap.size + 1 + 1) (w.heap.size + 1) w.heap.size N M (minus 0) (blank 0) := by
  have e1 : (w.alloc (noughts M 128)).heap.size = w.heap.size + 1 := by simp
  have hb := below2 (w.alloc (noughts M 128)) (noughts N 123) (.cells #[.slice (some ⟨w.heap.size + 1, 0, none⟩) N N, .slice (some ⟨w.heap.size, 0, none⟩) M M] 120)
  have hc := below1 ((w.alloc (noughts M 128)).alloc (noughts N 123)) (.cells #[.slice (some ⟨w.heap.size + 1, 0, none⟩) N N, .slice (some ⟨w.heap.size, 0, none⟩) M M] 120)
  refine ⟨by go_simp, by go_simp, fun q hq => ?_, fun q hq => ?_, fun q hq => ?_, fun q hq => ?_, by omega, by omega, by omega, h1, h2, h3, h4⟩
  · have := noughts_cell (w.alloc (noughts M 128)) N 123 q hq
    rw [e1] at this
    exact (hc.cell (p := ⟨w.heap.size + 1, q, none⟩) (by simp)).trans (this.trans (by simp [minus]))
  · have := noughts_free (w.alloc (noughts M 128)) N 123 q
    rw [e1] at this
    exact ((Below.but hc fun _ => False).frozen (p := ⟨w.heap.size + 1, q, none⟩) (by simp) id).trans this
  · exact (hb.cell (p := ⟨w.heap.size, q, none⟩) (by rw [e1]; show w.heap.size < _; omega)).trans ((noughts_cell w M _ q hq).trans (by simp [blank]))
  · exact ((Below.but hb fun _ => False).frozen (p := ⟨w.heap.size, q, none⟩) (by rw [e1]; show w.heap.size < _; omega) id).trans (noughts_free w M _ q)

section
variable {w : World} {p a b N M : Nat} {F G : Nat → Int}
theorem Rm.node {k : Nat} (h : Rm w p a b N M (minus k) G) (hk : k < N) :
    Rm (((w.setCell ⟨a, k * 3, none⟩ (.int .i64 (-1))).setCell ⟨a, k * 3 + 1, none⟩ (.int .i64 (-1))).setCell ⟨a, k * 3 + 2, none⟩ (.int .i64 (-1))) p a b N M (minus (k + 1)) G := by
  refine (((h.setN (q := k * 3) (by omega) (-1)).setN (q := k * 3 + 1) (by omega) (-1)).setN (q := k * 3 + 2) (by omega) (-1)).congr (fun q hq => ?_) (fun _ _ => rfl)
  unfold upd minus
  by_cases e : q < k * 3
  · rw [if_neg (by omega), if_neg (by omega), if_neg (by omega), if_pos e, if_pos (by omega)]
  · by_cases e2 : q < (k + 1) * 3
    · rw [if_pos e2]
      by_cases z : q = k * 3 + 2
      · rw [if_pos z]
      · rw [if_neg z]
        by_cases y : q = k * 3 + 1
        · rw [if_pos y]
        · rw [if_neg y, if_pos (by omega)]
    · rw [if_neg (by omega), if_neg (by omega), if_neg (by omega), if_neg e, if_neg e2]
theorem Rm.list {k : Nat} (h : Rm w p a b N M F (blank k)) (hk : k < M) :
    Rm ((w.setCell ⟨b, k * 3, none⟩ (.int .i64 (-1))).setCell ⟨b, k * 3 + 1, none⟩ (.int .i64 (-1))) p a b N M F (blank (k + 1)) := by
  refine ((h.setL (q := k * 3) (by omega) (-1)).setL (q := k * 3 + 1) (by omega) (-1)).congr (fun _ _ => rfl) (fun q hq => ?_)
  unfold upd blank
  by_cases y : q = k * 3 + 1
  · rw [if_pos y, if_pos (by omega)]
  · rw [if_neg y]
    by_cases z : q = k * 3
    · rw [if_pos z, if_pos (by omega)]
    · rw [if_neg z]
      by_cases e : q < k * 3 ∧ q % 3 ≠ 2
      · rw [if_pos e, if_pos (by omega)]
      · rw [if_neg e, if_neg (by omega)]
theorem at_blank (M i j : Nat) (n : Int) : ¬ At (List.replicate M []) i j n := fun ⟨x, h1, h2⟩ => by
  rw [List.getElem?_replicate] at h1
  split at h1
  · cases h1; simp at h2
  · cases h1
theorem ln_blank (M i : Nat) : ln (List.replicate M []) i = 0 := by
  unfold ln
  rw [List.getElem?_replicate]
  split <;> rfl
theorem gt_blank (M i j : Nat) : gt (List.replicate M []) i j = -1 := gt_out (by rw [ln_blank]; omega)
theorem Wf.blank (N M : Nat) : Wf N M 0 (List.replicate M []) := ⟨by simp, fun i j n i' j' h => absurd h (at_blank _ _ _ _), fun i j n h => absurd h (at_blank _ _ _ _), fun i => by rw [ln_blank]; omega⟩
theorem Rm.done (h : Rm w p a b N M (minus N) (blank M)) : Rg w p a b N M 0 (List.replicate M []) := by
  refine ⟨Wf.blank N M, h.congr (fun q hq => ?_) (fun q hq => ?_)⟩
  · unfold minus stF
    rw [if_pos hq, prev_no (at_blank _ · · _), next_no (at_blank _ · · _), of_no (at_blank _ · · _)]
    simp
  · unfold Proofs.Ytfkegbipfekbdaa.Rn.blank stG firstL lastL
    rw [gt_blank, gt_blank, ln_blank]
    by_cases e : q % 3 = 0
    · rw [if_pos (by omega), if_pos e]
    · rw [if_neg e]
      by_cases e1 : q % 3 = 1
      · rw [if_pos (by omega), if_pos e1]
      · rw [if_neg (by omega), if_neg e1]
        rfl
end

set_option maxHeartbeats 1000000 in
theorem new_ok (N M : Nat) (w : World) (h1 : 1 ≤ N) (h2 : N ≤ 4096) (h3 : 1 ≤ M) (h4 : M ≤ 64) :
    Calls Try.prog 54 #[.int .i64 (N : Int), .int .i64 (M : Int)] w fun e w' => ∃ p a b, e = .returned (.tuple #[.pointer (some ⟨p, 0, none⟩), .int .i64 0]) ∧ Rg w' p a b N M 0 (List.replicate M []) ∧ Below w.heap.size w w' ∧ w.heap.size ≤ p ∧ w.heap.size ≤ a ∧ w.heap.size ≤ b := by
  have d1 : (decide ((1 : Int) ≤ (N : Int)) && decide ((N : Int) ≤ 4096)) = true := by simp; omega
  have d2 : (decide ((1 : Int) ≤ (M : Int)) && decide ((M : Int) ≤ 64)) = true := by simp; omega
  have m1 := make_nodes N h2
  have m2 := make_lists M h4
  have O1 := Lib.hid (new_one w N M h1 h2 h3 h4)
  have O2 := Lib.hid (new_two w N M h1 h2 h3 h4)
  go_enter Try.func54, Try.ntmps54
  go_wp2_with fail
  refine (within_any N 1 4096 w).mono ?_
  rw [d1]
  rintro e w' ⟨rfl, rfl⟩
  go_wp2_with fail
  refine (within_any M 1 64 w).mono ?_
  rw [d2]
  rintro e w' ⟨rfl, rfl⟩
  clear d1 d2
  go_wp2_with fail
  go_region
  all_goals
    first
      | (show Exit.then _ _ _ _ (((w.alloc (noughts N 123)).alloc _).alloc _).drew
         have HB : Hid (Below w.heap.size w (((w.alloc (noughts N 123)).alloc (noughts M 128)).alloc (.cells #[.slice (some ⟨w.heap.size, 0, none⟩) N N, .slice (some ⟨w.heap.size + 1, 0, none⟩) M M] 120)).drew) := Lib.hid (belowD ((below2 w _ _).alloc (by simp; omega) _))
         have HR := O1
         clear O1 O2
         generalize (((w.alloc (noughts N 123)).alloc (noughts M 128)).alloc (.cells #[.slice (some ⟨w.heap.size, 0, none⟩) N N, .slice (some ⟨w.heap.size + 1, 0, none⟩) M M] 120)).drew = w3 at HB HR ⊢
         generalize hp : w.heap.size + 1 + 1 = p at HR ⊢
         generalize hb : w.heap.size + 1 = b at HR ⊢
         generalize ha : w.heap.size = a at HR ⊢)
      | (have HB : Hid (Below w.heap.size w (((w.alloc (noughts M 128)).alloc (noughts N 123)).alloc (.cells #[.slice (some ⟨w.heap.size + 1, 0, none⟩) N N, .slice (some ⟨w.heap.size, 0, none⟩) M M] 120)).drew) := Lib.hid (belowD ((below2 w _ _).alloc (by simp; omega) _))
         have HR := O2
         clear O1 O2
         generalize (((w.alloc (noughts M 128)).alloc (noughts N 123)).alloc (.cells #[.slice (some ⟨w.heap.size + 1, 0, none⟩) N N, .slice (some ⟨w.heap.size, 0, none⟩) M M] 120)).drew = w3 at HB HR ⊢
         generalize hp : w.heap.size + 1 + 1 = p at HR ⊢
         generalize ha : w.heap.size + 1 = a at HR ⊢
         generalize hb : w.heap.size = b at HR ⊢)
    have HG : Hid (w.heap.size ≤ p ∧ w.heap.size ≤ a ∧ w.heap.size ≤ b) := Lib.hid (by omega)
    clear hp ha hb m1 m2
    have c0 := HR.out.nodes
    go_wp2
    go_loopw [28] (fun i wr => ∃ k : Nat, k ≤ N ∧ i = .int .i64 k ∧ Rm wr p a b N M (minus k) (blank 0) ∧ Below w.heap.size w wr) (fun i _ => N - (intOf i).toNat)
    case atStart => exact ⟨0, by omega, rfl, HR.out, HB.out⟩
    case round =>
      obtain ⟨k, hk, rfl, hr, hbl⟩ := hrel
      have R1 := Lib.hid hr
      have B1 := Lib.hid hbl
      clear hr hbl HR HB c0
      by_cases hlt : k < N
      · have dk : decide ((k : Int) < (N : Int)) = true := by simp; omega
        have c0 := R1.out.nodes
        go_wp2_with fail
        go_region_with (go_at_call 79; refine (loose_rm R1.out.drew).mono ?_; rintro e w5 ⟨rfl, r5, b5⟩; have q0 := r5.nodes; have q1 := r5.cn (k * 3) (by omega); have q2 := r5.cn (k * 3 + 1) (by omega); have q3 := r5.cn (k * 3 + 2) (by omega); have g1 := r5.fn (k * 3) (by omega); have g2 := r5.fn (k * 3 + 1) (by omega); have g3 := r5.fn (k * 3 + 2) (by omega))
        all_goals
          have R6 := Lib.hid (r5.node hlt)
          have B6 : Hid (Below w.heap.size w (((w5.setCell ⟨a, k * 3, none⟩ (.int .i64 (-1))).setCell ⟨a, k * 3 + 1, none⟩ (.int .i64 (-1))).setCell ⟨a, k * 3 + 2, none⟩ (.int .i64 (-1)))) := Lib.hid (by
            have hB := B1.out.trans ((belowD (Below.refl _ wr)).trans (b5.mono B1.out.size))
            exact hB.trans (((((But.refl (· = a) w5).setCell (p := ⟨a, k * 3, none⟩) (fun _ => rfl) _).setCell (p := ⟨a, k * 3 + 1, none⟩) (fun _ => rfl) _).setCell (p := ⟨a, k * 3 + 2, none⟩) (fun _ => rfl) _).one hB.size HG.out.2.1))
          clear r5 b5 q0 q1 q2 q3 g1 g2 g3
          go_wp2
          go_roundw
          case rel => exact ⟨k + 1, by omega, by go_num, R6.out, B6.out⟩
          case measure => simp [intOf]; omega
      · have dk : decide ((k : Int) < (N : Int)) = false := by simp; omega
        obtain rfl : k = N := by omega
        have c0 := R1.out.nodes
        have c1 := R1.out.lists
        obtain ⟨wo, rfl⟩ : ∃ wo : World, wo = wr := ⟨_, rfl⟩
        go_wp2
        go_loopw [44] (fun i wr => ∃ j : Nat, j ≤ M ∧ i = .int .i64 j ∧ Rm wr p a b k M (minus k) (blank j) ∧ Below w.heap.size w wr) (fun i _ => M - (intOf i).toNat)
        case atStart => exact ⟨0, by omega, rfl, R1.out, B1.out⟩
        case round =>
          obtain ⟨j, hj, rfl, hr, hbl⟩ := hrel
          have R2 := Lib.hid hr
          have B2 := Lib.hid hbl
          clear hr hbl c0 c1 dk
          by_cases hlt2 : j < M
          · have dk : decide ((j : Int) < (M : Int)) = true := by simp; omega
            have c0 := R2.out.lists
            have c1 := R2.out.cl (j * 3) (by omega)
            have c2 := R2.out.cl (j * 3 + 1) (by omega)
            have f1 := R2.out.fl (j * 3) (by omega)
            have f2 := R2.out.fl (j * 3 + 1) (by omega)
            have R6 := Lib.hid (R2.out.list hlt2)
            have B6 : Hid (Below w.heap.size w ((wr.setCell ⟨b, j * 3, none⟩ (.int .i64 (-1))).setCell ⟨b, j * 3 + 1, none⟩ (.int .i64 (-1)))) := Lib.hid
              (B2.out.trans ((((But.refl (· = b) wr).setCell (p := ⟨b, j * 3, none⟩) (fun _ => rfl) _).setCell (p := ⟨b, j * 3 + 1, none⟩) (fun _ => rfl) _).one B2.out.size HG.out.2.2))
            go_wp2
            go_roundw
            case rel => exact ⟨j + 1, by omega, by go_num, R6.out, B6.out⟩
            case measure => simp [intOf]; omega
          · have dk : decide ((j : Int) < (M : Int)) = false := by simp; omega
            obtain rfl : j = M := by omega
            go_wp2
            go_ret2
            exact ⟨p, a, b, rfl, R2.out.done, B2.out, HG.out⟩
end Go.Proofs.Ytfkegbipfekbdaa.Rn
