import Derived.Test.YtijkigibcpgciaaZGC
import Derived.Test.YtijkigibcpgciaaZGA
import Derived.Laws.Bits64b
import Derived.Lib.Hide
import Derived.OwnWalk
import Derived.WalkMore
import Derived.Deep.LoopGhost
/-
  Package bits, its ground: what Bits are in memory ('Bm'); New, mask, already, may, Has.
-/
namespace Go.Proofs.Ytijkigibcpgciaa.Pg
open Go.ChangeShapes Go.WideShapes Go.ChangeAt Go.RowKit
set_option maxRecDepth 100000

/-- Block p are Bits: eight words W, and how many places there are; the words stand for L. -/
structure Bw (w : World) (p : Nat) (W : Nat → Nat) (L : List Bool) : Prop where
  c : ∀ n, n < 8 → w.cell? ⟨p, n, none⟩ = some (.int .u64 (W n : Int))
  m : w.cell? ⟨p, 8, none⟩ = some (.int .i64 (L.length : Int))
  f : ∀ n, n < 8 → w.frozen? ⟨p, n, none⟩ = false
  wd : ∀ n, n < 8 → Wd (W n) L (n * 64)
  l1 : 1 ≤ L.length
  l2 : L.length ≤ 512
def Bm (w : World) (p : Nat) (L : List Bool) : Prop := ∃ W, Bw w p W L
section
variable {w w' : World} {p : Nat} {W : Nat → Nat} {L : List Bool} {S : Nat → Prop}
theorem Bw.size (h : Bw w p W L) : p < w.heap.size := lt_of_cell (p := ⟨p, 8, none⟩) h.m
theorem Bm.size (h : Bm w p L) : p < w.heap.size := by obtain ⟨W, h⟩ := h; exact h.size
theorem Bw.but (h : Bw w p W L) (hb : But S w w') (hn : ¬ S p) : Bw w' p W L :=
  ⟨fun n hl => (hb.cell (p := ⟨p, n, none⟩) h.size hn).trans (h.c n hl), (hb.cell (p := ⟨p, 8, none⟩) h.size hn).trans h.m, fun n hl => (hb.frozen (p := ⟨p, n, none⟩) h.size hn).trans (h.f n hl), h.wd, h.l1, h.l2⟩
theorem Bm.but (h : Bm w p L) (hb : But S w w') (hn : ¬ S p) : Bm w' p L := by obtain ⟨W, h⟩ := h; exact ⟨W, h.but hb hn⟩
theorem Bm.below (h : Bm w p L) (hb : Below w.heap.size w w') : Bm w' p L := h.but (Below.but hb fun _ => False) id
theorem Bm.drewN (h : Bm w p L) (k : Nat) : Bm (w.drewN k) p L := h.but ((But.refl (fun _ => False) w).drewN k) id
theorem Bm.l1 (h : Bm w p L) : 1 ≤ L.length := by obtain ⟨W, h⟩ := h; exact h.l1
theorem Bm.l2 (h : Bm w p L) : L.length ≤ 512 := by obtain ⟨W, h⟩ := h; exact h.l2
end

theorem mask_any (n : Nat) (hn : n < 512) (w : World) : Calls Try.prog 87 #[.int .i64 (n : Int)] w fun e w' => e = .returned (.int .u64 ((2 ^ (n % 64) : Nat) : Int)) ∧ w = w' := by
  go_enter Try.func87, Try.ntmps87
  go_wp2
  go_ret
  refine ⟨?_, rfl⟩
  have hf := pow_fit (Nat.mod_lt n (show 64 > 0 by omega))
  have he : ((2 ^ (n % 64) : Nat) : Int) = (2 : Int) ^ (n % 64) := by simp
  show Ending.returned (.int .u64 (IntKind.u64.wrap ((2 : Int) ^ (n % 64)))) = _
  rw [← he, IntKind.wrap_u64]
  generalize 2 ^ (n % 64) = y at hf ⊢
  congr 2
  omega
theorem already_any (b : Bool) (w : World) : Calls Try.prog 90 #[.bool b] w (R1 (if b = true then 10 else 9) w) := by
  cases b with
  | true =>
    go_enter Try.func90, Try.ntmps90
    go_wp2
    go_ret
    exact ⟨rfl, rfl⟩
  | false =>
    go_enter Try.func90, Try.ntmps90
    go_wp2
    go_ret
    exact ⟨rfl, rfl⟩
theorem may_nil (n : Int) (w : World) : Calls Try.prog 88 #[.pointer none, .int .i64 n] w (B1 false w) := by
  go_enter Try.func88, Try.ntmps88
  go_wp2
  go_ret
  exact ⟨rfl, rfl⟩
section
variable {w : World} {p : Nat} {L : List Bool}
theorem may_any (h : Bm w p L) (n : Int) : Calls Try.prog 88 #[.pointer (some ⟨p, 0, none⟩), .int .i64 n] w (B1 (inB L n) w) := by
  obtain ⟨W, h⟩ := h
  have hm := h.m
  clear h
  unfold inB
  go_enter Try.func88, Try.ntmps88
  go_wp2
  all_goals
    go_ret
    refine ⟨?_, rfl⟩
    first | (simp_all; done) | (simp_all; omega)
theorem inB_in {n : Int} (h : inB L n = true) : ∃ k : Nat, n = (k : Int) ∧ k < L.length := by
  simp [inB] at h
  exact ⟨n.toNat, by omega, by omega⟩
theorem inB_nat {k : Nat} (h : k < L.length) : inB L (k : Int) = true := by simp [inB]; omega
theorem has_nil (n : Int) (w : World) : Calls Try.prog 89 #[.pointer none, .int .i64 n] w (BQ false w) := by
  have HM := Lib.hid (fun d => may_nil n (w.drewN d))
  go_enter Try.func89, Try.ntmps89
  go_wp2_with fail
  go_quiet ((go_at_call 88; exact quiet1 (HM.out _)))
  go_wp2
  go_ret
  exact ⟨rfl, _, rfl⟩
theorem has_off (h : Bm w p L) (n : Int) (hn : inB L n = false) : Calls Try.prog 89 #[.pointer (some ⟨p, 0, none⟩), .int .i64 n] w (BQ false w) := by
  have HM := Lib.hid (fun d => may_any (h.drewN d) n)
  rw [hn] at HM
  clear hn h
  go_enter Try.func89, Try.ntmps89
  go_wp2_with fail
  go_quiet ((go_at_call 88; exact quiet1 (HM.out _)))
  go_wp2
  go_ret
  exact ⟨rfl, _, rfl⟩
/-- A word, and one of its bits, as Go's '&' tells. -/
theorem and_word {x k : Nat} (h : Wd x L (k / 64 * 64)) : bits .and .u64 (x : Int) ((2 ^ (k % 64) : Nat) : Int) = ((x &&& 2 ^ (k % 64) : Nat) : Int) ∧ ((x &&& 2 ^ (k % 64) : Nat) = 0 ↔ bt L k = false) := by
  have h64 : k % 64 < 64 := Nat.mod_lt _ (by omega)
  refine ⟨bits_and_u64_nat _ _ h.1 (pow_fit h64), ?_⟩
  rw [and_zero, h.2 _ h64, show k / 64 * 64 + k % 64 = k by omega]
theorem has_on (h : Bm w p L) (k : Nat) (hk : k < L.length) : Calls Try.prog 89 #[.pointer (some ⟨p, 0, none⟩), .int .i64 (k : Int)] w (BQ (bt L k) w) := by
  have HM := Lib.hid (fun d => may_any (h.drewN d) (k : Int))
  rw [inB_nat hk] at HM
  have l2 := h.l2
  have HK := Lib.hid (fun d => mask_any k (by omega) (w.drewN d))
  obtain ⟨W, h⟩ := h
  have hc := h.c (k / 64) (by omega)
  obtain ⟨ea, ez⟩ := and_word (h.wd (k / 64) (by omega))
  have en : ((((W (k / 64) &&& 2 ^ (k % 64) : Nat) : Int)) != 0) = bt L k := by
    cases b : bt L k
    · rw [ez.2 b]; rfl
    · have : (W (k / 64) &&& 2 ^ (k % 64) : Nat) ≠ 0 := fun q => by rw [ez.1 q] at b; cases b
      simp
      omega
  generalize (W (k / 64) &&& 2 ^ (k % 64) : Nat) = y at ea en
  generalize (2 ^ (k % 64) : Nat) = z at ea HK
  generalize W (k / 64) = x at ea hc
  generalize bt L k = b at en ⊢
  have hk2 : k < 512 := by omega
  clear ez h hk l2
  go_enter Try.func89, Try.ntmps89
  go_wp2_with fail
  go_quiet ((first
    | (go_at_call 88; exact quiet1 (HM.out _))
    | (go_at_call 87; exact quiet1 (HK.out _))))
  go_wp2
  go_ret
  exact ⟨rfl, _, rfl⟩
theorem has_any (h : Bm w p L) (n : Int) : Calls Try.prog 89 #[.pointer (some ⟨p, 0, none⟩), .int .i64 n] w (BQ (hasOf L n) w) := by
  unfold hasOf
  cases q : inB L n with
  | false => exact has_off h n q
  | true =>
    obtain ⟨k, rfl, hk⟩ := inB_in q
    exact has_on h k hk
end
end Go.Proofs.Ytijkigibcpgciaa.Pg
/-
  Package bits: New, Set.
-/
namespace Go.Proofs.Ytijkigibcpgciaa.Pg
open Go.ChangeShapes Go.WideShapes Go.ChangeAt Go.RowKit
set_option maxRecDepth 100000

/-- What New answers: so many places, none of them set. -/
def NewEnds (n : Int) (w : World) (e : Ending) (w' : World) : Prop :=
  e = .returned (.tuple #[.pointer (some ⟨w.heap.size, 0, none⟩), .int .i64 0]) ∧ Bm w' w.heap.size (List.replicate n.toNat false) ∧ Below w.heap.size w w' ∧ w.heap.size < w'.heap.size
theorem new_bad (n : Int) (h : n < 1 ∨ 512 < n) (w : World) :
    Calls Try.prog 54 #[.int .i64 n] w fun e w' => e = .returned (.tuple #[.pointer none, .int .i64 1]) ∧ w = w' := by
  by_cases h1 : n < 1
  · have d1 : decide (n < 1) = true := decide_eq_true h1
    go_enter Try.func54, Try.ntmps54
    go_wp2
    go_ret2
    exact ⟨rfl, rfl⟩
  · have d1 : decide (n < 1) = false := decide_eq_false h1
    have d2 : decide (512 < n) = true := decide_eq_true (by omega)
    go_enter Try.func54, Try.ntmps54
    go_wp2
    go_ret2
    exact ⟨rfl, rfl⟩
theorem bt_none (n k : Nat) : bt (List.replicate n false) k = false := by
  unfold bt
  rw [List.getElem?_replicate]
  split <;> rfl
theorem new_ok (n : Int) (h1 : 1 ≤ n) (h2 : n ≤ 512) (w : World) : Calls Try.prog 54 #[.int .i64 n] w (NewEnds n w) := by
  have d1 : decide (n < 1) = false := decide_eq_false (by omega)
  have d2 : decide (512 < n) = false := decide_eq_false (by omega)
  go_enter Try.func54, Try.ntmps54
  go_wp2
  go_ret2
  refine ⟨rfl, ⟨fun _ => 0, fun k hk => ?_, ?_, fun k hk => ?_, fun k hk => ⟨by omega, fun i hi => by rw [bt_none]; simp⟩, by rw [List.length_replicate]; omega, by rw [List.length_replicate]; omega⟩, below1 w _, by simp⟩
  · rcases (by omega : k = 0 ∨ k = 1 ∨ k = 2 ∨ k = 3 ∨ k = 4 ∨ k = 5 ∨ k = 6 ∨ k = 7) with rfl | rfl | rfl | rfl | rfl | rfl | rfl | rfl <;> simp
  · rw [List.length_replicate, Int.toNat_of_nonneg (by omega)]; simp
  · simp

section
variable {w : World} {p : Nat} {L : List Bool}
theorem set_nil (n : Int) (b : Bool) (w : World) : Calls Try.prog 83 #[.pointer none, .int .i64 n, .bool b] w (R1 1 w) := by
  go_enter Try.func83, Try.ntmps83
  go_wp2_with fail
  refine (may_nil n w).mono ?_
  rintro e w' ⟨rfl, rfl⟩
  go_wp2
  go_ret
  exact ⟨rfl, rfl⟩
theorem set_off (h : Bm w p L) (n : Int) (hn : inB L n = false) (b : Bool) : Calls Try.prog 83 #[.pointer (some ⟨p, 0, none⟩), .int .i64 n, .bool b] w (R1 1 w) := by
  have HM := Lib.hid (may_any h n)
  rw [hn] at HM
  clear h hn
  go_enter Try.func83, Try.ntmps83
  go_wp2_with fail
  refine HM.out.mono ?_
  rintro e w' ⟨rfl, rfl⟩
  go_wp2
  go_ret
  exact ⟨rfl, rfl⟩
theorem set_same (h : Bm w p L) (k : Nat) (hk : k < L.length) : Calls Try.prog 83 #[.pointer (some ⟨p, 0, none⟩), .int .i64 (k : Int), .bool (bt L k)] w (RQ (if bt L k = true then 10 else 9) w) := by
  have HM := Lib.hid (may_any h (k : Int))
  rw [inB_nat hk] at HM
  have HH := Lib.hid (has_on h k hk)
  generalize bt L k = b at HH ⊢
  have HA := Lib.hid (already_any b)
  generalize (if b = true then (10 : Int) else 9) = z at HA ⊢
  have eb : (b == b) = true := by simp
  clear h hk
  go_enter Try.func83, Try.ntmps83
  go_wp2_with fail
  refine HM.out.mono ?_
  rintro e w' ⟨rfl, rfl⟩
  go_wp2_with fail
  refine HH.out.mono ?_
  rintro e w' ⟨rfl, d, rfl⟩
  go_wp2_with fail
  refine (HA.out _).mono ?_
  rintro e w' ⟨rfl, rfl⟩
  go_wp2
  go_ret
  exact ⟨rfl, _, rfl⟩
/-- A word that is another, all else as it was. -/
theorem Bw.set {W : Nat → Nat} (h : Bw w p W L) {k : Nat} (hk : k < L.length) {is : Bool} (hne : bt L k ≠ is) :
    Bw (w.setCell ⟨p, k / 64, none⟩ (.int .u64 ((W (k / 64) ^^^ 2 ^ (k % 64) : Nat) : Int))) p (fun n => if n = k / 64 then W n ^^^ 2 ^ (k % 64) else W n) (L.set k is) := by
  have l2 := h.l2
  have ek : k / 64 * 64 + k % 64 = k := by omega
  refine ⟨fun n hn => ?_, ?_, fun n hn => by simpa using h.f n hn, fun n hn => ?_, by rw [List.length_set]; exact h.l1, by rw [List.length_set]; exact h.l2⟩
  · by_cases e : n = k / 64
    · subst e
      rw [if_pos rfl]
      exact World.cell?_setCell_same w _ _ (h.c _ hn)
    · rw [if_neg e, World.cell?_setCell_other _ _ _ _ (by simp <;> omega)]
      exact h.c n hn
  · rw [List.length_set, World.cell?_setCell_other _ _ _ _ (by simp <;> omega)]
    exact h.m
  · by_cases e : n = k / 64
    · subst e
      rw [if_pos rfl]
      have := (h.wd (k / 64) hn).flip (i := k % 64) (Nat.mod_lt _ (by omega)) (by rw [ek]; exact hk) is (by rw [ek]; exact hne)
      rwa [ek] at this
    · rw [if_neg e]
      exact (h.wd n hn).apart hk is (by omega)
theorem set_flip (h : Bm w p L) (k : Nat) (hk : k < L.length) (is : Bool) (hne : bt L k ≠ is) : Calls Try.prog 83 #[.pointer (some ⟨p, 0, none⟩), .int .i64 (k : Int), .bool is] w fun e w' => e = .returned (.int .i64 0) ∧ Bm w' p (L.set k is) ∧ But (· = p) w w' := by
  have HM := Lib.hid (may_any h (k : Int))
  rw [inB_nat hk] at HM
  have HH := Lib.hid (has_on h k hk)
  have l2 := h.l2
  have HK := Lib.hid (fun u => mask_any k (by omega) u)
  have eb : (bt L k == is) = false := by simpa using hne
  obtain ⟨W, hw⟩ := h
  have H := Lib.hid (fun d => (hw.but ((But.refl (fun _ => False) w).drewN d) id).set hk hne)
  have hc := hw.c (k / 64) (by omega)
  have hf := hw.f (k / 64) (by omega)
  have ex := bits_xor_u64_nat (W (k / 64)) (2 ^ (k % 64)) (hw.wd _ (by omega)).1 (pow_fit (Nat.mod_lt _ (by omega)))
  generalize hy : (W (k / 64) ^^^ 2 ^ (k % 64) : Nat) = y at ex H
  have HY := Lib.hid hy
  clear hy
  generalize (2 ^ (k % 64) : Nat) = z at ex HK H HY
  generalize hx : W (k / 64) = x at ex hc
  generalize bt L k = b at eb HH
  have hk2 : k < 512 := by omega
  have t1 : (k : Int) / 64 = ((k / 64 : Nat) : Int) := by omega
  have t2 : (k : Int).tdiv 64 = ((k / 64 : Nat) : Int) := by rw [Int.tdiv_eq_ediv_of_nonneg (by omega), t1]
  have tn : ¬ (64 : Int) = 0 := by omega
  have q8 : k / 64 < 8 := by omega
  generalize k / 64 = q at *
  have wq : IntKind.i64.wrap (q : Int) = (q : Int) := IntWalk.i64_in _ (by omega)
  clear hw hk l2 hne hx
  go_enter Try.func83, Try.ntmps83
  go_wp2_with fail
  refine HM.out.mono ?_
  rintro e w' ⟨rfl, rfl⟩
  go_wp2_with fail
  refine HH.out.mono ?_
  rintro e w' ⟨rfl, d, rfl⟩
  go_wp2_with fail
  go_region_with (go_at_call 87; refine (HK.out _).mono ?_; rintro e w' ⟨rfl, rfl⟩)
  all_goals
    go_wp2
    go_ret
    exact ⟨rfl, ⟨_, H.out _⟩, ((But.refl (· = p) w).drewN _).setCell (p := ⟨p, q, none⟩) (fun _ => rfl) _⟩
end

/-- How Set ends. -/
def SetEnds (p : Nat) (L : List Bool) (z : Int) (w : World) (e : Ending) (w' : World) : Prop := e = .returned (.int .i64 z) ∧ Bm w' p L ∧ But (· = p) w w'
section
variable {w : World} {p : Nat} {L : List Bool}
theorem set_any (h : Bm w p L) (at_ : Int) (is : Bool) : Calls Try.prog 83 #[.pointer (some ⟨p, 0, none⟩), .int .i64 at_, .bool is] w (SetEnds p (setL L at_ is) (setE L at_ is) w) := by
  cases q : inB L at_ with
  | false =>
    rw [(setL_off q).1, (setL_off q).2]
    exact (set_off h at_ q is).mono fun e w' ⟨he, hw⟩ => ⟨he, hw ▸ h, hw ▸ But.refl _ _⟩
  | true =>
    obtain ⟨k, rfl, hk⟩ := inB_in q
    by_cases e : bt L k = is
    · subst e
      rw [(setL_same hk).1, (setL_same hk).2]
      exact (set_same h k hk).mono fun e w' ⟨he, d, hw⟩ => ⟨he, hw ▸ h.drewN d, hw ▸ (But.refl _ _).drewN d⟩
    · rw [(setL_flip hk e).1, (setL_flip hk e).2]
      exact set_flip h k hk is e
end
end Go.Proofs.Ytijkigibcpgciaa.Pg
/-
  Package bits: Low.
-/
namespace Go.Proofs.Ytijkigibcpgciaa.Pg
open Go.ChangeShapes Go.WideShapes Go.ChangeAt Go.RowKit
set_option maxRecDepth 100000

/-- The eight words, as a value. -/
abbrev arr (W : Nat → Nat) : Value := .agg #[.int .u64 (W 0 : Int), .int .u64 (W 1 : Int), .int .u64 (W 2 : Int), .int .u64 (W 3 : Int), .int .u64 (W 4 : Int), .int .u64 (W 5 : Int), .int .u64 (W 6 : Int), .int .u64 (W 7 : Int)]
theorem arr_at (a0 a1 a2 a3 a4 a5 a6 a7 : Int) (n : Nat) (hn : n < 8) (W : Nat → Int) (e0 : W 0 = a0) (e1 : W 1 = a1) (e2 : W 2 = a2) (e3 : W 3 = a3) (e4 : W 4 = a4) (e5 : W 5 = a5) (e6 : W 6 = a6) (e7 : W 7 = a7) (w : World) :
    (Instr.index 126 (.agg #[.int .u64 a0, .int .u64 a1, .int .u64 a2, .int .u64 a3, .int .u64 a4, .int .u64 a5, .int .u64 a6, .int .u64 a7]) (.int .i64 (n : Int))).run Try.prog w = .ok (.int .u64 (W n)) w := by
  rcases (by omega : n = 0 ∨ n = 1 ∨ n = 2 ∨ n = 3 ∨ n = 4 ∨ n = 5 ∨ n = 6 ∨ n = 7) with rfl | rfl | rfl | rfl | rfl | rfl | rfl | rfl
  · rw [e0]; kernel_rfl
  · rw [e1]; kernel_rfl
  · rw [e2]; kernel_rfl
  · rw [e3]; kernel_rfl
  · rw [e4]; kernel_rfl
  · rw [e5]; kernel_rfl
  · rw [e6]; kernel_rfl
  · rw [e7]; kernel_rfl

theorem low_nil (w : World) : Calls Try.prog 82 #[.pointer none] w (R1 (-1) w) := by
  go_enter Try.func82, Try.ntmps82
  go_wp2
  go_step3
  go_wp2
  rw [Exit.noGoto_ret]
  go_ret
  exact ⟨rfl, rfl⟩
section
variable {w : World} {p : Nat} {L : List Bool}
set_option maxHeartbeats 1000000 in
set_option maxRecDepth 20000 in
theorem low_any (h : Bm w p L) : Calls Try.prog 82 #[.pointer (some ⟨p, 0, none⟩)] w (R1 (lowOf L) w) := by
  obtain ⟨W, h⟩ := h
  have HK := Lib.hid (fun n hn => mask_any n hn w)
  have c0 := h.c 0 (by omega)
  have c1 := h.c 1 (by omega)
  have c2 := h.c 2 (by omega)
  have c3 := h.c 3 (by omega)
  have c4 := h.c 4 (by omega)
  have c5 := h.c 5 (by omega)
  have c6 := h.c 6 (by omega)
  have c7 := h.c 7 (by omega)
  have cm := h.m
  have l2 := h.l2
  have HW := Lib.hid h.wd
  have HA := Lib.hid (fun n hn => arr_at (W 0) (W 1) (W 2) (W 3) (W 4) (W 5) (W 6) (W 7) n hn (fun n => (W n : Int)) rfl rfl rfl rfl rfl rfl rfl rfl w)
  clear h
  go_enter Try.func82, Try.ntmps82
  go_wp2
  go_step3
  go_wp2
  go_step3
  go_wp2
  generalize (W 0 : Int) = a0 at HA ⊢
  generalize (W 1 : Int) = a1 at HA ⊢
  generalize (W 2 : Int) = a2 at HA ⊢
  generalize (W 3 : Int) = a3 at HA ⊢
  generalize (W 4 : Int) = a4 at HA ⊢
  generalize (W 5 : Int) = a5 at HA ⊢
  generalize (W 6 : Int) = a6 at HA ⊢
  generalize (W 7 : Int) = a7 at HA ⊢
  clear c0 c1 c2 c3 c4 c5 c6 c7
  go_loopg [13] 8 (fun g s13 wx => ∃ n : Nat, n + g = 8 ∧ s13 = .int .i64 n ∧ Hid (∀ j, j < n * 64 → bt L j = true) ∧ wx = w)
  case atStart => exact ⟨0, by omega, rfl, Lib.hid (fun j hj => by omega), rfl⟩
  case round =>
    obtain ⟨n, hn, rfl, HB, rfl⟩ := hrel
    cases gk with
    | zero =>
      have dn : decide ((n : Int) < 8) = false := by simp; omega
      have E : Hid (lowOf L = -1) := Lib.hid (low_none fun j hj => HB.out j (by omega))
      go_wp2
      rw [E.out]
      try rw [Exit.noGoto_ret]
      go_ret
      exact ⟨rfl, rfl⟩
    | succ g =>
      have dn : decide ((n : Int) < 8) = true := by simp; omega
      have hr := HA.out n (by omega)
      go_wp2
      clear hr
      have HX := Lib.hid (HW.out n (by omega))
      generalize W n = x at HX ⊢
      go_loopg [17] 64 (fun g2 s17 wy => ∃ i : Nat, i + g2 = 64 ∧ s17 = .int .i64 i ∧ Hid (∀ j, j < n * 64 + i → bt L j = true) ∧ wy = wr)
      case atStart => exact ⟨0, by omega, rfl, HB, rfl⟩
      case round =>
        obtain ⟨i, hi, rfl, HI, rfl⟩ := hrel
        cases gk with
        | zero =>
          have di : decide ((i : Int) < 64) = false := by simp; omega
          go_wp2
          go_roundg g
          case measure => omega
          case rel => exact ⟨n + 1, by omega, by go_num, Lib.hid (fun j hj => HI.out j (by omega)), rfl⟩
        | succ g2 =>
          have di : decide ((i : Int) < 64) = true := by simp; omega
          by_cases hat : n * 64 + i = L.length
          · have da : ((n : Int) * 64 + (i : Int) == (L.length : Int)) = true := by simp; omega
            have E : Hid (lowOf L = -1) := Lib.hid (low_none fun j hj => HI.out j (by omega))
            go_wp2
            rw [E.out]
            try rw [Exit.noGoto_ret]
            go_ret
            exact ⟨rfl, rfl⟩
          · have da : ((n : Int) * 64 + (i : Int) == (L.length : Int)) = false := by simp; omega
            have hlt : n * 64 + i < L.length := by
              rcases Nat.lt_or_ge (n * 64 + i) L.length with q | q
              · exact q
              · have := bt_in (HI.out L.length (by omega)); omega
            obtain ⟨at_, hA⟩ : ∃ at_ : Nat, at_ = n * 64 + i := ⟨_, rfl⟩
            have K := HK.out at_ (by omega)
            have w1 : IntKind.i64.wrap ((n : Int) * 64) = (n : Int) * 64 := IntWalk.i64_in _ (by omega)
            have w2 : IntKind.i64.wrap ((n : Int) * 64 + (i : Int)) = (at_ : Int) := by rw [IntWalk.i64_in _ (by omega)]; omega
            have db : ((at_ : Int) == (L.length : Int)) = false := by simp; omega
            obtain ⟨ea, ez⟩ := and_word (k := at_) (by rw [show at_ / 64 = n by omega]; exact HX.out)
            have en : ((((x &&& 2 ^ (at_ % 64) : Nat) : Int)) == 0) = !(bt L at_) := by
              cases b : bt L at_
              · rw [ez.2 b]; rfl
              · have : (x &&& 2 ^ (at_ % 64) : Nat) ≠ 0 := fun q => by rw [ez.1 q] at b; cases b
                simp
                omega
            have HZ := Lib.hid hA
            have HT := Lib.hid hlt
            clear ez da hA hlt hat
            generalize (x &&& 2 ^ (at_ % 64) : Nat) = y at ea en
            generalize (2 ^ (at_ % 64) : Nat) = z at ea K
            have KK := Lib.hid K
            clear K
            cases b : bt L at_ with
            | false =>
              rw [b] at en
              have E : Hid (lowOf L = (at_ : Int)) := Lib.hid (low_at (by have := HT.out; have := HZ.out; omega) b fun j hj => HI.out j (by have := HZ.out; omega))
              clear b
              go_wp2_with fail
              refine KK.out.mono ?_
              rintro e w' ⟨rfl, rfl⟩
              go_wp2
              rw [E.out]
              try rw [Exit.noGoto_ret]
              go_ret
              exact ⟨rfl, rfl⟩
            | true =>
              rw [b] at en
              have HN : Hid (∀ j, j < n * 64 + (i + 1) → bt L j = true) := Lib.hid (fun j hj => by
                by_cases q : j = at_
                · rw [q]; exact b
                · exact HI.out j (by have := HZ.out; omega))
              clear b
              go_wp2_with fail
              refine KK.out.mono ?_
              rintro e w' ⟨rfl, rfl⟩
              go_wp2
              go_roundg g2
              case measure => omega
              case rel => exact ⟨i + 1, by omega, by go_num, HN, rfl⟩
end
end Go.Proofs.Ytijkigibcpgciaa.Pg
/-
  Package bits: High, Count.
-/
namespace Go.Proofs.Ytijkigibcpgciaa.Pg
open Go.ChangeShapes Go.WideShapes Go.ChangeAt Go.RowKit
set_option maxRecDepth 100000

theorem high_nil (w : World) : Calls Try.prog 84 #[.pointer none] w (R1 (-1) w) := by
  go_enter Try.func84, Try.ntmps84
  go_wp2
  go_ret
  exact ⟨rfl, rfl⟩
theorem count_nil (w : World) : Calls Try.prog 91 #[.pointer none] w (R1 0 w) := by
  go_enter Try.func91, Try.ntmps91
  go_wp2
  go_ret
  exact ⟨rfl, rfl⟩
section
variable {w : World} {p : Nat} {L : List Bool} {W : Nat → Nat}
theorem words_off {n i : Nat} (h : ∀ n, n < 8 → Wd (W n) L (n * 64)) (l2 : L.length ≤ 512) (hW : ∀ m, n < m → m < 8 → W m = 0) (hx : W n < 2 ^ i) : ∀ j, n * 64 + i ≤ j → bt L j = false := by
  intro j hj
  rcases Nat.lt_or_ge j L.length with q | q
  · have e : j / 64 * 64 + j % 64 = j := by omega
    have hb := (h (j / 64) (by omega)).2 (j % 64) (Nat.mod_lt _ (by omega))
    rw [e] at hb
    rw [← hb]
    by_cases z : j / 64 = n
    · rw [z]
      exact bits_above hx (by omega)
    · rw [hW (j / 64) (by omega) (by omega)]
      simp
  · exact bt_out q
set_option maxHeartbeats 1000000 in
set_option maxRecDepth 20000 in
theorem high_any (h : Bm w p L) : Calls Try.prog 84 #[.pointer (some ⟨p, 0, none⟩)] w (R1 (highOf L) w) := by
  obtain ⟨W, h⟩ := h
  have l2 := h.l2
  have HW := Lib.hid h.wd
  have HC := Lib.hid h.c
  clear h
  go_enter Try.func84, Try.ntmps84
  go_wp2
  go_loopg [3] 8 (fun g s3 wx => ∃ z : Int, g ≤ 8 ∧ z = (g : Int) - 1 ∧ s3 = .int .i64 z ∧ Hid (∀ m, g ≤ m → m < 8 → W m = 0) ∧ wx = w)
  case atStart => exact ⟨7, by omega, rfl, rfl, Lib.hid (fun j h1 h2 => by omega), rfl⟩
  case round =>
    obtain ⟨z, hg, hz, rfl, HB, rfl⟩ := hrel
    cases gk with
    | zero =>
      have dn : decide ((0 : Int) ≤ z) = false := by simp; omega
      have E : Hid (highOf L = -1) := Lib.hid (high_none fun j => words_off (n := 0) (i := 0) HW.out l2 (fun m _ h8 => HB.out m (by omega) h8) (by rw [HB.out 0 (by omega) (by omega)]; omega) j (by omega))
      go_wp2
      rw [E.out]
      go_ret
      exact ⟨rfl, rfl⟩
    | succ g =>
      obtain rfl : z = (g : Int) := by omega
      clear hz
      have g8 : g < 8 := by omega
      have dn : decide ((0 : Int) ≤ (g : Int)) = true := by simp
      have hc := HC.out g (by omega)
      have HX := Lib.hid (HW.out g (by omega)).1
      go_wp2
      go_loopg [4] 64 (fun g2 s4 wy => ∃ y : Int, g2 ≤ 64 ∧ y = (g2 : Int) - 1 ∧ s4 = .int .i64 y ∧ Hid (W g < 2 ^ g2) ∧ wy = wr)
      case atStart => exact ⟨63, by omega, rfl, rfl, Lib.hid HX.out, rfl⟩
      case round =>
        obtain ⟨y, h2, hy, rfl, HI, rfl⟩ := hrel
        cases gk with
        | zero =>
          have di : decide ((0 : Int) ≤ y) = false := by simp; omega
          have HN : Hid (∀ m, g ≤ m → m < 8 → W m = 0) := Lib.hid (fun m h1 h8 => by
            by_cases q : m = g
            · have := HI.out; rw [q]; simp at this; exact this
            · exact HB.out m (by omega) h8)
          go_wp2
          go_roundg g
          case measure => omega
          case rel => exact ⟨(g : Int) - 1, by omega, rfl, by go_num, HN, rfl⟩
        | succ i =>
          obtain rfl : y = (i : Int) := by omega
          clear hy
          have di : decide ((0 : Int) ≤ (i : Int)) = true := by simp
          have ht := top_bit HI.out
          have hs : ((W g : Int) / 2 ^ i) = ((W g / 2 ^ i : Nat) : Int) := by simp
          have hb := (HW.out g g8).2 i (by omega)
          rw [hb] at ht
          cases b : bt L (g * 64 + i) with
          | false =>
            rw [b] at ht
            have en : (((W g : Int) / 2 ^ i) != 0) = false := by rw [hs, ht]; rfl
            have HN : Hid (W g < 2 ^ i) := Lib.hid (by
              rcases Nat.lt_or_ge (W g) (2 ^ i) with q | q
              · exact q
              · have := Nat.div_pos q (Nat.two_pow_pos i); simp at ht; omega)
            clear b hb ht hs
            go_wp2
            go_roundg i
            case measure => omega
            case rel => exact ⟨(i : Int) - 1, by omega, rfl, by go_num, HN, rfl⟩
          | true =>
            rw [b] at ht
            have en : (((W g : Int) / 2 ^ i) != 0) = true := by rw [hs, ht]; rfl
            have E : Hid (highOf L = (g : Int) * 64 + (i : Int)) := Lib.hid (by
              have := high_at b (fun j hj => words_off (n := g) (i := i + 1) HW.out l2 (fun m h1 h8 => HB.out m (by omega) h8) HI.out j (by omega))
              rw [this]; omega)
            clear b hb ht hs
            go_wp2
            rw [E.out]
            go_ret
            exact ⟨rfl, rfl⟩
end
end Go.Proofs.Ytijkigibcpgciaa.Pg
/-
  Package bits: Count.
-/
namespace Go.Proofs.Ytijkigibcpgciaa.Pg
open Go.ChangeShapes Go.WideShapes Go.ChangeAt Go.RowKit
set_option maxRecDepth 100000
section
variable {w : World} {p : Nat} {L : List Bool}
set_option maxHeartbeats 1000000 in
set_option maxRecDepth 20000 in
theorem count_any (h : Bm w p L) : Calls Try.prog 91 #[.pointer (some ⟨p, 0, none⟩)] w (R1 ((L.count true : Nat) : Int) w) := by
  obtain ⟨W, h⟩ := h
  have c0 := h.c 0 (by omega)
  have c1 := h.c 1 (by omega)
  have c2 := h.c 2 (by omega)
  have c3 := h.c 3 (by omega)
  have c4 := h.c 4 (by omega)
  have c5 := h.c 5 (by omega)
  have c6 := h.c 6 (by omega)
  have c7 := h.c 7 (by omega)
  have HE : Hid (cntOf L 0 512 = L.count true) := Lib.hid (cnt_all h.l2)
  have HW := Lib.hid h.wd
  have HA := Lib.hid (fun n hn => arr_at (W 0) (W 1) (W 2) (W 3) (W 4) (W 5) (W 6) (W 7) n hn (fun n => (W n : Int)) rfl rfl rfl rfl rfl rfl rfl rfl w)
  clear h
  go_enter Try.func91, Try.ntmps91
  go_wp2
  generalize (W 0 : Int) = a0 at HA ⊢
  generalize (W 1 : Int) = a1 at HA ⊢
  generalize (W 2 : Int) = a2 at HA ⊢
  generalize (W 3 : Int) = a3 at HA ⊢
  generalize (W 4 : Int) = a4 at HA ⊢
  generalize (W 5 : Int) = a5 at HA ⊢
  generalize (W 6 : Int) = a6 at HA ⊢
  generalize (W 7 : Int) = a7 at HA ⊢
  clear c0 c1 c2 c3 c4 c5 c6 c7
  go_loopg [3, 12] 8 (fun g s3 s12 wx => ∃ n c : Nat, n + g = 8 ∧ s12 = .int .i64 n ∧ s3 = .int .i64 c ∧ Hid (c = cntOf L 0 (n * 64)) ∧ wx = w)
  case atStart => exact ⟨0, 0, by omega, rfl, rfl, Lib.hid (by simp [cntOf]), rfl⟩
  case round =>
    obtain ⟨n, c, hn, rfl, rfl, HB, rfl⟩ := hrel
    cases gk with
    | zero =>
      have dn : decide ((n : Int) < 8) = false := by simp; omega
      have E : Hid (L.count true = c) := Lib.hid (by rw [HB.out, ← HE.out, show n = 8 by omega])
      go_wp2
      rw [E.out]
      go_ret
      exact ⟨rfl, rfl⟩
    | succ g =>
      have dn : decide ((n : Int) < 8) = true := by simp; omega
      have hr := HA.out n (by omega)
      go_wp2
      clear hr
      have HX := Lib.hid (HW.out n (by omega))
      have HS : Hid (c + pc 64 (W n) = cntOf L 0 ((n + 1) * 64) ∧ c ≤ 512) := Lib.hid (by
        have h1 := HX.out.pc
        have h2 := cnt_split L 0 (n * 64) 64
        have h3 := cnt_le L 0 (n * 64)
        have h4 := HB.out
        rw [Nat.zero_add] at h2
        rw [h1, h4, show (n + 1) * 64 = n * 64 + 64 by omega, h2]
        omega)
      generalize hx : W n = x at HX HS ⊢
      clear hx
      go_loopg [3, 5] x (fun g2 s3 s5 wy => ∃ d : Nat, s5 = .int .u64 (g2 : Int) ∧ s3 = .int .i64 d ∧ g2 < 18446744073709551616 ∧ Hid (d + pc 64 g2 = cntOf L 0 ((n + 1) * 64)) ∧ d ≤ 600 ∧ wy = wr)
      case atStart => exact ⟨c, rfl, rfl, HX.out.1, Lib.hid HS.out.1, by have := HS.out.2; omega, rfl⟩
      case round =>
        obtain ⟨d, rfl, rfl, hlt, HI, hd, rfl⟩ := hrel
        by_cases h0 : gk = 0
        · subst h0
          have HN : Hid (d = cntOf L 0 ((n + 1) * 64)) := Lib.hid (by have := HI.out; rw [pc_zero] at this; exact this)
          go_wp2
          go_roundg g
          case measure => omega
          case rel => exact ⟨n + 1, d, by omega, by go_num, rfl, HN, rfl⟩
        · have en : ((gk : Int) != 0) = true := by simp; omega
          have wx : IntKind.u64.wrap ((gk : Int) - 1) = ((gk - 1 : Nat) : Int) := by rw [IntKind.wrap_u64]; omega
          have ea := bits_and_u64_nat gk (gk - 1) hlt (by omega)
          have HP : Hid (pc 64 (gk &&& (gk - 1)) + 1 = pc 64 gk) := Lib.hid (pc_pred 64 gk hlt h0)
          have HL : Hid ((gk &&& (gk - 1)) < gk) := Lib.hid (and_pred_lt h0)
          have HQ : Hid (d + 1 ≤ 512) := Lib.hid (by have h1 := HI.out; have h2 := HP.out; have h3 := cnt_le L 0 ((n + 1) * 64); omega)
          generalize gk &&& (gk - 1) = y at ea HP HL
          generalize gk - 1 = v at wx ea
          go_wp2
          go_roundg y
          case measure => have := HL.out; omega
          case rel => exact ⟨d + 1, rfl, by go_num, by have := HL.out; omega, Lib.hid (by have := HP.out; have := HI.out; omega), by have := HQ.out; omega, rfl⟩
end
end Go.Proofs.Ytijkigibcpgciaa.Pg
