/-
  The document's own answers for package bits (almeryref11): New, Set, Has, Low, High, Count, over a slice of bools.
-/
import Derived.Test.YtbdjocoedcgfbaaBools
import Derived.Test.YtbdjocoedcgfbaaBitsNum
import Derived.Test.YtbdjocoedcgfbaaQuietImp
import Derived.Lib.Hide
namespace Go.Proofs.Ytbdjocoedcgfbaa
open Go.ChangeShapes Go.WideShapes Go.ChangeAt Go.RowKit Go.Deep

theorem but_oneB (w : World) (g k : Nat) (v : Value) : But (· = g) w (w.setCell ⟨g, k, none⟩ v) := (But.refl (· = g) w).setCell (p := ⟨g, k, none⟩) (fun _ => rfl) v
theorem refNew_bad (n : Int) (h : n < 1 ∨ 512 < n) (w : World) :
    Calls Try.prog 10 #[.int .i64 n] w fun e w' => e = .returned (.tuple #[.slice none 0 0, .int .i64 1]) ∧ w = w' := by
  by_cases h1 : n < 1
  · have d1 : decide (n < 1) = true := decide_eq_true h1
    go_enter Try.func10, Try.ntmps10
    go_wp2
    go_ret2
    exact ⟨rfl, rfl⟩
  · have d1 : decide (n < 1) = false := decide_eq_false h1
    have d2 : decide (512 < n) = true := decide_eq_true (by omega)
    go_enter Try.func10, Try.ntmps10
    go_wp2
    go_ret2
    exact ⟨rfl, rfl⟩
/-- n bools false, as make lays them. -/
def falses (n : Nat) : Obj := .cells (madeCells #[.bool false] n) 4
theorem make_bools (n : Nat) (hn : n ≤ 512) (v : World) :
    (Instr.makeSlice 28 (.int .i64 (n : Int)) (.int .i64 (n : Int))).run Try.prog v = .ok (.slice (some ⟨v.heap.size, 0, none⟩) n n) (v.alloc (falses n)) := by
  obtain ⟨i, hi, hz, hs, hb⟩ : ∃ i, Try.prog.info? 4 = some i ∧ i.zero = some (.bool false) ∧ i.size = 1 ∧ i.bytes = 1 := ⟨_, rfl, by kernel_rfl, by kernel_rfl, by kernel_rfl⟩
  rw [run_make v 28 4 i (.bool false) Try.underlying28 hi hz .i64 .i64 n n (by omega) (by omega) (by rw [hb]; omega) (by omega)]
  simp [hs, falses, Value.cells]
theorem falses_row (w : World) (n : Nat) (hn : n ≤ 512) : Bools (w.alloc (falses n)) (w.alloc (falses n)).heap.size (some ⟨w.heap.size, 0, none⟩) n (List.replicate n false) := by
  have hh : (w.alloc (falses n)).heap[w.heap.size]? = some (falses n) := by simp only [World.alloc, Array.getElem?_push, if_true]
  refine ⟨by simp, by omega, fun _ => ⟨w.heap.size, 0, rfl, by simp, fun k s hs => ?_⟩⟩
  obtain ⟨hk, e⟩ := List.getElem?_eq_some_iff.1 hs
  rw [List.length_replicate] at hk
  rw [List.getElem_replicate] at e
  subst e
  rw [World.cell?, hh]
  simp [falses, madeCells, hk, Nat.mod_one]
theorem refNew_ok (n : Nat) (h1 : 1 ≤ n) (h2 : n ≤ 512) (w : World) :
    Calls Try.prog 10 #[.int .i64 (n : Int)] w fun e w' => e = .returned (.tuple #[.slice (some ⟨w.heap.size, 0, none⟩) n n, .int .i64 0]) ∧ Bools w' w'.heap.size (some ⟨w.heap.size, 0, none⟩) n (List.replicate n false) ∧ Below w.heap.size w w' := by
  have d1 : decide ((n : Int) < 1) = false := decide_eq_false (by omega)
  have d2 : decide (512 < (n : Int)) = false := decide_eq_false (by omega)
  have hmk := make_bools n h2
  have HB := Lib.hid (falses_row w n h2)
  go_enter Try.func10, Try.ntmps10
  go_wp2
  go_ret2
  exact ⟨rfl, HB.out, below1 w _⟩

section
variable {w : World} {b n c : Nat} {L : List Bool}
theorem Bools.cell0 (h : Bools w w.heap.size (some ⟨b, 0, none⟩) n L) {k : Nat} (hk : k < n) : w.cell? ⟨b, k, none⟩ = some (.bool (bt L k)) := by
  obtain ⟨b', o, e, _, hc⟩ := h.head (by omega)
  injection e with e
  injection e with e1 e2
  subst e1 e2
  have := hc k _ (bt_get (by rw [h.len]; exact hk))
  rwa [Nat.zero_add] at this
/-- How Set ends: the slice that came in, or another one. -/
def RefSet (n b : Nat) (L : List Bool) (z : Int) (w : World) (e : Ending) (w' : World) : Prop :=
  ∃ b' c', e = .returned (.tuple #[.slice (some ⟨b', 0, none⟩) n c', .int .i64 z]) ∧ Bools w' w'.heap.size (some ⟨b', 0, none⟩) n L ∧ (b' = b ∨ w.heap.size ≤ b') ∧ Below w.heap.size w w'
theorem refSet_off (h : Bools w w.heap.size (some ⟨b, 0, none⟩) n L) (at_ : Int) (is : Bool) (hn : inB L at_ = false) :
    Calls Try.prog 12 #[.slice (some ⟨b, 0, none⟩) n c, .int .i64 at_, .bool is] w (RefSet n b L 1 w) := by
  have H := Lib.hid h
  have hl := h.len
  simp [inB, hl] at hn
  clear h hl
  by_cases h0 : at_ < 0
  · have d0 : decide (at_ < 0) = true := decide_eq_true h0
    clear hn
    go_enter Try.func12, Try.ntmps12
    go_wp2
    go_ret2
    exact ⟨b, c, rfl, H.out, Or.inl rfl, Below.refl _ _⟩
  · have d0 : decide (at_ < 0) = false := decide_eq_false h0
    have d1 : decide ((n : Int) ≤ at_) = true := decide_eq_true (hn (by omega))
    clear hn
    go_enter Try.func12, Try.ntmps12
    go_wp2
    go_ret2
    exact ⟨b, c, rfl, H.out, Or.inl rfl, Below.refl _ _⟩
theorem refSet_same (h : Bools w w.heap.size (some ⟨b, 0, none⟩) n L) (k : Nat) (hk : k < n) :
    Calls Try.prog 12 #[.slice (some ⟨b, 0, none⟩) n c, .int .i64 (k : Int), .bool (bt L k)] w (RefSet n b L (if bt L k = true then 10 else 9) w) := by
  have H := Lib.hid h
  have hm := h.max
  have hc := h.cell0 hk
  have d0 : decide ((k : Int) < 0) = false := decide_eq_false (by omega)
  have d1 : decide ((n : Int) ≤ (k : Int)) = false := decide_eq_false (by omega)
  have hki : (k : Int) < (n : Int) := by omega
  clear h
  cases q : bt L k with
  | true =>
    rw [q] at hc
    clear q
    go_enter Try.func12, Try.ntmps12
    go_wp2
    go_ret2
    exact ⟨b, c, rfl, H.out, Or.inl rfl, Below.refl _ _⟩
  | false =>
    rw [q] at hc
    clear q
    go_enter Try.func12, Try.ntmps12
    go_wp2
    go_ret2
    exact ⟨b, c, rfl, H.out, Or.inl rfl, Below.refl _ _⟩
set_option maxHeartbeats 1000000 in
theorem refSet_flip (h : Bools w w.heap.size (some ⟨b, 0, none⟩) n L) (hn : n ≤ 512) (k : Nat) (hk : k < n) (is : Bool) (hne : bt L k ≠ is) :
    Calls Try.prog 12 #[.slice (some ⟨b, 0, none⟩) n c, .int .i64 (k : Int), .bool is] w (RefSet n b (L.set k is) 0 w) := by
  have hc := h.cell0 hk
  have own0 : (w.alloc (.cells #[] 4)).ownsRow w.heap.size 4 1 (.slice (some ⟨w.heap.size, 0, none⟩) 0 0) 0 (([] : List Bool).map Value.bool) := World.ownsRow_lit w #[] 0 (Nat.le_refl _) (by unfold maxLen; omega) rfl
  obtain ⟨g, cap, w5, hrun, hown, b5⟩ := app_bools (c := c) own0 (h.on (below1 w (.cells #[] 4))) (by simp) (by omega) 28
  rw [Nat.zero_add, List.nil_append] at hown
  rw [Nat.zero_add] at hrun
  obtain ⟨J5, hcap⟩ := bools_own hown (by omega)
  have bb5 : Below w.heap.size w w5 := (below1 w _).trans b5
  have hg := hown.lt g rfl
  have m0 := J5.cell0 hk
  have m1 := hown.frozenAt k
  have b6 := but_oneB w5 g k (.bool is)
  have J6 : Bools (w5.setCell ⟨g, k, none⟩ (.bool is)) (w5.setCell ⟨g, k, none⟩ (.bool is)).heap.size (some ⟨g, 0, none⟩) n (L.set k is) := by
    refine J5.set hk b6.size ?_ (fun j hj => ?_)
    · exact World.cell?_setCell_same w5 ⟨g, k, none⟩ (.bool is) m0
    · exact World.cell?_setCell_other w5 ⟨g, k, none⟩ ⟨g, j, none⟩ _ (by simp <;> omega)
  have HJ := Lib.hid J6
  have HBB : Hid (Below w.heap.size w (w5.setCell ⟨g, k, none⟩ (.bool is))) := Lib.hid (bb5.trans (b6.one bb5.size hg.1))
  have HG := Lib.hid hg.1
  have R := Lib.hid hrun
  have d0 : decide ((k : Int) < 0) = false := decide_eq_false (by omega)
  have d1 : decide ((n : Int) ≤ (k : Int)) = false := decide_eq_false (by omega)
  have hki : (k : Int) < (n : Int) := by omega
  have hm := h.max
  have m2 : ∃ v, v = bt L k := ⟨_, rfl⟩
  clear J6 J5 hown own0 b6 bb5 hg b5 hrun h
  cases is with
  | true =>
    have q : bt L k = false := by cases e : bt L k; rfl; exact absurd e hne
    rw [q] at hc m0
    clear q hne
    go_enter Try.func12, Try.ntmps12
    go_wp2_with (at_builtin; refine wpList_append_run rfl _ _ rfl rfl rfl rfl R.out ?_)
    go_ret2
    exact ⟨g, cap, rfl, HJ.out, Or.inr HG.out, HBB.out⟩
  | false =>
    have q : bt L k = true := by cases e : bt L k; exact absurd e hne; rfl
    rw [q] at hc m0
    clear q hne
    go_enter Try.func12, Try.ntmps12
    go_wp2_with (at_builtin; refine wpList_append_run rfl _ _ rfl rfl rfl rfl R.out ?_)
    go_ret2
    exact ⟨g, cap, rfl, HJ.out, Or.inr HG.out, HBB.out⟩
theorem setL_off {at_ : Int} {is : Bool} (h : inB L at_ = false) : setL L at_ is = L ∧ setE L at_ is = 1 := by simp [setL, setE, h]
theorem setL_same {k : Nat} (hk : k < L.length) : setL L (k : Int) (bt L k) = L ∧ setE L (k : Int) (bt L k) = if bt L k = true then 10 else 9 := by
  have e : inB L (k : Int) = true := by simp [inB]; omega
  constructor
  · simp only [setL, e, Int.toNat_natCast]
    rw [if_neg (by decide)]
    apply List.ext_getElem?
    intro j
    by_cases q : k = j
    · subst q; rw [List.getElem?_set_self hk, bt_get hk]
    · rw [List.getElem?_set_ne q]
  · simp [setE, e]
theorem setL_flip {k : Nat} (hk : k < L.length) {is : Bool} (hne : bt L k ≠ is) : setL L (k : Int) is = L.set k is ∧ setE L (k : Int) is = 0 := by
  have e : inB L (k : Int) = true := by simp [inB]; omega
  simp [setL, setE, e, hne]
theorem length_setL (at_ : Int) (is : Bool) : (setL L at_ is).length = L.length := by
  unfold setL
  split
  · rfl
  · rw [List.length_set]
theorem refSet_any (h : Bools w w.heap.size (some ⟨b, 0, none⟩) n L) (hn : n ≤ 512) (at_ : Int) (is : Bool) :
    Calls Try.prog 12 #[.slice (some ⟨b, 0, none⟩) n c, .int .i64 at_, .bool is] w (RefSet n b (setL L at_ is) (setE L at_ is) w) := by
  have hl := h.len
  cases q : inB L at_ with
  | false =>
    rw [(setL_off q).1, (setL_off q).2]
    exact refSet_off h at_ is q
  | true =>
    obtain ⟨k, rfl, hk⟩ : ∃ k : Nat, at_ = (k : Int) ∧ k < L.length := by simp [inB] at q; exact ⟨at_.toNat, by omega, by omega⟩
    by_cases e : bt L k = is
    · subst e
      rw [(setL_same hk).1, (setL_same hk).2]
      exact refSet_same h k (by omega)
    · rw [(setL_flip hk e).1, (setL_flip hk e).2]
      exact refSet_flip h hn k (by omega) is e
theorem refHas_any (h : Bools w w.heap.size (some ⟨b, 0, none⟩) n L) (at_ : Int) :
    Calls Try.prog 15 #[.slice (some ⟨b, 0, none⟩) n c, .int .i64 at_] w (B1 (hasOf L at_) w) := by
  have hl := h.len
  have hm := h.max
  unfold hasOf
  cases q : inB L at_ with
  | false =>
    simp [inB, hl] at q
    clear h hl
    by_cases h0 : at_ < 0
    · have d0 : decide (0 ≤ at_) = false := decide_eq_false (by omega)
      clear q
      go_enter Try.func15, Try.ntmps15
      go_wp2
      go_ret
      exact ⟨rfl, rfl⟩
    · have d0 : decide (0 ≤ at_) = true := decide_eq_true (by omega)
      have d1 : decide (at_ < (n : Int)) = false := decide_eq_false (by have := q (by omega); omega)
      clear q
      go_enter Try.func15, Try.ntmps15
      go_wp2
      go_ret
      exact ⟨rfl, rfl⟩
  | true =>
    obtain ⟨k, rfl, hk⟩ : ∃ k : Nat, at_ = (k : Int) ∧ k < L.length := by simp [inB] at q; exact ⟨at_.toNat, by omega, by omega⟩
    have hc := h.cell0 (k := k) (by omega)
    have hki : (k : Int) < (n : Int) := by omega
    rw [Int.toNat_natCast]
    generalize bt L k = z at hc ⊢
    clear q hk h hl
    go_enter Try.func15, Try.ntmps15
    go_wp2
    go_ret
    exact ⟨rfl, rfl⟩
theorem refLow_any (h : Bools w w.heap.size (some ⟨b, 0, none⟩) n L) :
    Calls Try.prog 22 #[.slice (some ⟨b, 0, none⟩) n c] w (R1 (lowOf L) w) := by
  have H := Lib.hid h
  have hm := h.max
  have HL := Lib.hid h.len
  clear h
  go_enter Try.func22, Try.ntmps22
  go_wp2
  go_loopw [3] (fun i wr => ∃ k : Nat, k ≤ n ∧ i = .int .i64 k ∧ Hid (∀ j, j < k → bt L j = true) ∧ wr = w) (fun i _ => n - (intOf i).toNat)
  case atStart => exact ⟨0, by omega, rfl, Lib.hid (fun j hj => by omega), rfl⟩
  case round =>
    obtain ⟨k, hk, rfl, HB, rfl⟩ := hrel
    by_cases hlt : k < n
    · have dk : decide ((k : Int) < (n : Int)) = true := by simp; omega
      have hc := H.out.cell0 hlt
      cases q : bt L k with
      | false =>
        rw [q] at hc
        have E : Hid (lowOf L = (k : Int)) := Lib.hid (low_at (by rw [HL.out]; exact hlt) q HB.out)
        clear q
        go_wp2
        rw [E.out]
        go_ret
        exact ⟨rfl, rfl⟩
      | true =>
        rw [q] at hc
        have HN : Hid (∀ j, j < k + 1 → bt L j = true) := Lib.hid (fun j hj => by
          by_cases e : j = k
          · rw [e]; exact q
          · exact HB.out j (by omega))
        clear q
        go_wp2
        go_roundw
        case rel => exact ⟨k + 1, by omega, by go_num, HN, trivial⟩
        case measure => simp [intOf]; omega
    · have dk : decide ((k : Int) < (n : Int)) = false := by simp; omega
      have E : Hid (lowOf L = -1) := Lib.hid (low_none fun j hj => HB.out j (by rw [HL.out] at hj; omega))
      go_wp2
      rw [E.out]
      go_ret
      exact ⟨rfl, rfl⟩
theorem refHigh_any (h : Bools w w.heap.size (some ⟨b, 0, none⟩) n L) :
    Calls Try.prog 23 #[.slice (some ⟨b, 0, none⟩) n c] w (R1 (highOf L) w) := by
  have H := Lib.hid h
  have hm := h.max
  have HL := Lib.hid h.len
  clear h
  go_enter Try.func23, Try.ntmps23
  go_wp2
  go_loopw [3] (fun i wr => ∃ (k : Nat) (z : Int), k ≤ n ∧ z = (k : Int) - 1 ∧ i = .int .i64 z ∧ Hid (∀ j, k ≤ j → bt L j = false) ∧ wr = w) (fun i _ => (intOf i + 1).toNat)
  case atStart => exact ⟨n, (n : Int) - 1, by omega, rfl, rfl, Lib.hid (fun j hj => bt_out (by rw [HL.out]; exact hj)), rfl⟩
  case round =>
    obtain ⟨k, z, hk, hz, rfl, HB, rfl⟩ := hrel
    cases k with
    | zero =>
      have dk : decide ((0 : Int) ≤ z) = false := by simp; omega
      have E : Hid (highOf L = -1) := Lib.hid (high_none fun j => HB.out j (by omega))
      go_wp2
      rw [E.out]
      go_ret
      exact ⟨rfl, rfl⟩
    | succ k =>
      obtain rfl : z = (k : Int) := by omega
      clear hz
      have dk : decide ((0 : Int) ≤ (k : Int)) = true := by simp
      have hlt : (k : Int) < (n : Int) := by omega
      have hc := H.out.cell0 (k := k) (by omega)
      cases q : bt L k with
      | true =>
        rw [q] at hc
        have E : Hid (highOf L = (k : Int)) := Lib.hid (high_at q fun j hj => HB.out j (by omega))
        clear q
        go_wp2
        rw [E.out]
        go_ret
        exact ⟨rfl, rfl⟩
      | false =>
        rw [q] at hc
        have HN : Hid (∀ j, k ≤ j → bt L j = false) := Lib.hid (fun j hj => by
          by_cases e : j = k
          · rw [e]; exact q
          · exact HB.out j (by omega))
        clear q
        go_wp2
        go_roundw
        case rel => exact ⟨k, (k : Int) - 1, by omega, rfl, by go_num, HN, trivial⟩
        case measure => simp [intOf] <;> omega
theorem refCount_any (h : Bools w w.heap.size (some ⟨b, 0, none⟩) n L) (hn : n ≤ 512) :
    Calls Try.prog 24 #[.slice (some ⟨b, 0, none⟩) n c] w (R1 ((L.count true : Nat) : Int) w) := by
  have H := Lib.hid h
  have HE : Hid (cntOf L 0 n = L.count true) := Lib.hid (cnt_all (by rw [h.len]; omega))
  clear h
  go_enter Try.func24, Try.ntmps24
  go_wp2
  go_loopw [3, 4] (fun s i wr => ∃ k m : Nat, k ≤ n ∧ i = .int .i64 k ∧ s = .int .i64 m ∧ m ≤ 512 ∧ Hid (m = cntOf L 0 k) ∧ wr = w) (fun _ i _ => n - (intOf i).toNat)
  case atStart => exact ⟨0, 0, by omega, rfl, rfl, by omega, Lib.hid (by simp [cntOf]), rfl⟩
  case round =>
    obtain ⟨k, m, hk, rfl, rfl, hm, HB, rfl⟩ := hrel
    by_cases hlt : k < n
    · have dk : decide ((k : Int) < (n : Int)) = true := by simp; omega
      have hc := H.out.cell0 hlt
      have HS : Hid (cntOf L 0 (k + 1) = cntOf L 0 k + (if bt L k = true then 1 else 0) ∧ cntOf L 0 (k + 1) ≤ k + 1) := Lib.hid (by
        have h1 := cnt_split L 0 k 1
        have h2 := cnt_succ L k 0
        rw [Nat.zero_add] at h1 h2
        have h3 : cntOf L (k + 1) 0 = 0 := by simp [cntOf]
        exact ⟨by omega, cnt_le L 0 (k + 1)⟩)
      cases q : bt L k with
      | false =>
        rw [q] at hc HS
        have HN : Hid (m = cntOf L 0 (k + 1)) := Lib.hid (by have h1 := HS.out.1; have h2 := HB.out; simp at h1; omega)
        clear q
        go_wp2
        go_roundw
        case rel => exact ⟨k + 1, m, by omega, by go_num, rfl, hm, HN, trivial⟩
        case measure => simp [intOf]; omega
      | true =>
        rw [q] at hc HS
        have HN : Hid (m + 1 = cntOf L 0 (k + 1)) := Lib.hid (by have h1 := HS.out.1; have h2 := HB.out; simp at h1; omega)
        have hm2 : m + 1 ≤ 512 := by have h1 := HS.out.2; have h2 := HN.out; omega
        clear q
        go_wp2
        go_roundw
        case rel => exact ⟨k + 1, m + 1, by omega, by go_num, by go_num, hm2, HN, trivial⟩
        case measure => simp [intOf]; omega
    · have dk : decide ((k : Int) < (n : Int)) = false := by simp; omega
      obtain rfl : k = n := by omega
      have E : Hid (L.count true = m) := Lib.hid (by rw [HB.out, HE.out])
      go_wp2
      rw [E.out]
      go_ret
      exact ⟨rfl, rfl⟩
end
end Go.Proofs.Ytbdjocoedcgfbaa
