/-
  Package bits: New, Set.
-/
import Derived.Test.YtijkigibcpgciaaPgBits
import Derived.OwnWalk
namespace Go.Proofs.Ytijkigibcpgciaa.Pg
open Go.ChangeShapes Go.WideShapes Go.ChangeAt Go.RowKit
set_option maxRecDepth 100000

/-- What New answers: so many places, none of them set. -/
def NewEnds (n : Int) (w : World) (e : Ending) (w' : World) : Prop :=
  e = .returned (.tuple #[.pointer (some ⟨w.heap.size, 0, none⟩), .int .i64 0]) ∧ Bm w' w.heap.size (List.replicate n.toNat false) ∧ Below w.heap.size w w' ∧ w.heap.size < w'.heap.size
theorem new_bad (n : Int) (h : n < 1 ∨ 512 < n) (w : World) :
    Calls Try.prog 54 #[.int .i64 n] w fun e w' => e = .returned (.tuple #[.pointer none, .int .i64 1]) ∧ w = w' := by
  by_cases h1 : n < 1
  · have d1 : decide (n < 1) = true := decide_eq_true h1
    go_enter Try.func54, Try.ntmps54
    go_wp2
    go_ret2
    exact ⟨rfl, rfl⟩
  · have d1 : decide (n < 1) = false := decide_eq_false h1
    have d2 : decide (512 < n) = true := decide_eq_true (by omega)
    go_enter Try.func54, Try.ntmps54
    go_wp2
    go_ret2
    exact ⟨rfl, rfl⟩
theorem bt_none (n k : Nat) : bt (List.replicate n false) k = false := by
  unfold bt
  rw [List.getElem?_replicate]
  split <;> rfl
theorem new_ok (n : Int) (h1 : 1 ≤ n) (h2 : n ≤ 512) (w : World) : Calls Try.prog 54 #[.int .i64 n] w (NewEnds n w) := by
  have d1 : decide (n < 1) = false := decide_eq_false (by omega)
  have d2 : decide (512 < n) = false := decide_eq_false (by omega)
  go_enter Try.func54, Try.ntmps54
  go_wp2
  go_ret2
  refine ⟨rfl, ⟨fun _ => 0, fun k hk => ?_, ?_, fun k hk => ?_, fun k hk => ⟨by omega, fun i hi => by rw [bt_none]; simp⟩, by rw [List.length_replicate]; omega, by rw [List.length_replicate]; omega⟩, below1 w _, by simp⟩
  · rcases (by omega : k = 0 ∨ k = 1 ∨ k = 2 ∨ k = 3 ∨ k = 4 ∨ k = 5 ∨ k = 6 ∨ k = 7) with rfl | rfl | rfl | rfl | rfl | rfl | rfl | rfl <;> simp
  · rw [List.length_replicate, Int.toNat_of_nonneg (by omega)]; simp
  · simp

section
variable {w : World} {p : Nat} {L : List Bool}
theorem set_nil (n : Int) (b : Bool) (w : World) : Calls Try.prog 83 #[.pointer none, .int .i64 n, .bool b] w (R1 1 w) := by
  go_enter Try.func83, Try.ntmps83
  go_wp2_with fail
  refine (may_nil n w).mono ?_
  rintro e w' ⟨rfl, rfl⟩
  go_wp2
  go_ret
  exact ⟨rfl, rfl⟩
theorem set_off (h : Bm w p L) (n : Int) (hn : inB L n = false) (b : Bool) : Calls Try.prog 83 #[.pointer (some ⟨p, 0, none⟩), .int .i64 n, .bool b] w (R1 1 w) := by
  have HM := Lib.hid (may_any h n)
  rw [hn] at HM
  clear h hn
  go_enter Try.func83, Try.ntmps83
  go_wp2_with fail
  refine HM.out.mono ?_
  rintro e w' ⟨rfl, rfl⟩
  go_wp2
  go_ret
  exact ⟨rfl, rfl⟩
theorem set_same (h : Bm w p L) (k : Nat) (hk : k < L.length) : Calls Try.prog 83 #[.pointer (some ⟨p, 0, none⟩), .int .i64 (k : Int), .bool (bt L k)] w (RQ (if bt L k = true then 10 else 9) w) := by
  have HM := Lib.hid (may_any h (k : Int))
  rw [inB_nat hk] at HM
  have HH := Lib.hid (has_on h k hk)
  generalize bt L k = b at HH ⊢
  have HA := Lib.hid (already_any b)
  generalize (if b = true then (10 : Int) else 9) = z at HA ⊢
  have eb : (b == b) = true := by simp
  clear h hk
  go_enter Try.func83, Try.ntmps83
  go_wp2_with fail
  refine HM.out.mono ?_
  rintro e w' ⟨rfl, rfl⟩
  go_wp2_with fail
  refine HH.out.mono ?_
  rintro e w' ⟨rfl, d, rfl⟩
  go_wp2_with fail
  refine (HA.out _).mono ?_
  rintro e w' ⟨rfl, rfl⟩
  go_wp2
  go_ret
  exact ⟨rfl, _, rfl⟩
/-- A word that is another, all else as it was. -/
theorem Bw.set {W : Nat → Nat} (h : Bw w p W L) {k : Nat} (hk : k < L.length) {is : Bool} (hne : bt L k ≠ is) :
    Bw (w.setCell ⟨p, k / 64, none⟩ (.int .u64 ((W (k / 64) ^^^ 2 ^ (k % 64) : Nat) : Int))) p (fun n => if n = k / 64 then W n ^^^ 2 ^ (k % 64) else W n) (L.set k is) := by
  have l2 := h.l2
  have ek : k / 64 * 64 + k % 64 = k := by omega
  refine ⟨fun n hn => ?_, ?_, fun n hn => by simpa using h.f n hn, fun n hn => ?_, by rw [List.length_set]; exact h.l1, by rw [List.length_set]; exact h.l2⟩
  · by_cases e : n = k / 64
    · subst e
      rw [if_pos rfl]
      exact World.cell?_setCell_same w _ _ (h.c _ hn)
    · rw [if_neg e, World.cell?_setCell_other _ _ _ _ (by simp <;> omega)]
      exact h.c n hn
  · rw [List.length_set, World.cell?_setCell_other _ _ _ _ (by simp <;> omega)]
    exact h.m
  · by_cases e : n = k / 64
    · subst e
      rw [if_pos rfl]
      have := (h.wd (k / 64) hn).flip (i := k % 64) (Nat.mod_lt _ (by omega)) (by rw [ek]; exact hk) is (by rw [ek]; exact hne)
      rwa [ek] at this
    · rw [if_neg e]
      exact (h.wd n hn).apart hk is (by omega)
theorem set_flip (h : Bm w p L) (k : Nat) (hk : k < L.length) (is : Bool) (hne : bt L k ≠ is) : Calls Try.prog 83 #[.pointer (some ⟨p, 0, none⟩), .int .i64 (k : Int), .bool is] w fun e w' => e = .returned (.int .i64 0) ∧ Bm w' p (L.set k is) ∧ But (· = p) w w' := by
  have HM := Lib.hid (may_any h (k : Int))
  rw [inB_nat hk] at HM
  have HH := Lib.hid (has_on h k hk)
  have l2 := h.l2
  have HK := Lib.hid (fun u => mask_any k (by omega) u)
  have eb : (bt L k == is) = false := by simpa using hne
  obtain ⟨W, hw⟩ := h
  have H := Lib.hid (fun d => (hw.but ((But.refl (fun _ => False) w).drewN d) id).set hk hne)
  have hc := hw.c (k / 64) (by omega)
  have hf := hw.f (k / 64) (by omega)
  have ex := bits_xor_u64_nat (W (k / 64)) (2 ^ (k % 64)) (hw.wd _ (by omega)).1 (pow_fit (Nat.mod_lt _ (by omega)))
  generalize hy : (W (k / 64) ^^^ 2 ^ (k % 64) : Nat) = y at ex H
  have HY := Lib.hid hy
  clear hy
  generalize (2 ^ (k % 64) : Nat) = z at ex HK H HY
  generalize hx : W (k / 64) = x at ex hc
  generalize bt L k = b at eb HH
  have hk2 : k < 512 := by omega
  have t1 : (k : Int) / 64 = ((k / 64 : Nat) : Int) := by omega
  have t2 : (k : Int).tdiv 64 = ((k / 64 : Nat) : Int) := by rw [Int.tdiv_eq_ediv_of_nonneg (by omega), t1]
  have tn : ¬ (64 : Int) = 0 := by omega
  have q8 : k / 64 < 8 := by omega
  generalize k / 64 = q at *
  have wq : IntKind.i64.wrap (q : Int) = (q : Int) := IntWalk.i64_in _ (by omega)
  clear hw hk l2 hne hx
  go_enter Try.func83, Try.ntmps83
  go_wp2_with fail
  refine HM.out.mono ?_
  rintro e w' ⟨rfl, rfl⟩
  go_wp2_with fail
  refine HH.out.mono ?_
  rintro e w' ⟨rfl, d, rfl⟩
  go_wp2_with fail
  go_region_with (go_at_call 87; refine (HK.out _).mono ?_; rintro e w' ⟨rfl, rfl⟩)
  all_goals
    go_wp2
    go_ret
    exact ⟨rfl, ⟨_, H.out _⟩, ((But.refl (· = p) w).drewN _).setCell (p := ⟨p, q, none⟩) (fun _ => rfl) _⟩
end

/-- How Set ends. -/
def SetEnds (p : Nat) (L : List Bool) (z : Int) (w : World) (e : Ending) (w' : World) : Prop := e = .returned (.int .i64 z) ∧ Bm w' p L ∧ But (· = p) w w'
section
variable {w : World} {p : Nat} {L : List Bool}
theorem set_any (h : Bm w p L) (at_ : Int) (is : Bool) : Calls Try.prog 83 #[.pointer (some ⟨p, 0, none⟩), .int .i64 at_, .bool is] w (SetEnds p (setL L at_ is) (setE L at_ is) w) := by
  cases q : inB L at_ with
  | false =>
    rw [(setL_off q).1, (setL_off q).2]
    exact (set_off h at_ q is).mono fun e w' ⟨he, hw⟩ => ⟨he, hw ▸ h, hw ▸ But.refl _ _⟩
  | true =>
    obtain ⟨k, rfl, hk⟩ := inB_in q
    by_cases e : bt L k = is
    · subst e
      rw [(setL_same hk).1, (setL_same hk).2]
      exact (set_same h k hk).mono fun e w' ⟨he, d, hw⟩ => ⟨he, hw ▸ h.drewN d, hw ▸ (But.refl _ _).drewN d⟩
    · rw [(setL_flip hk e).1, (setL_flip hk e).2]
      exact set_flip h k hk is e
end
end Go.Proofs.Ytijkigibcpgciaa.Pg
