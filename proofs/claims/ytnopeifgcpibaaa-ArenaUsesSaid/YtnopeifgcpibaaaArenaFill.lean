/-
  Package arena: fill, Fill: one byte laid often, by copies of what has been laid.
-/
import Derived.Test.YtnopeifgcpibaaaArenaPart
import Derived.BigRegion
namespace Go.Proofs.Ytnopeifgcpibaaa
open Go.ChangeShapes Go.WideShapes Go.ChangeAt Go.RowKit

/-- k bytes c stand from at on. -/
structure Filled (xs : List Int) (at_ : Nat) (c : Int) (b : Nat) (w : World) (k : Nat) (w' : World) : Prop where
  row : Row w' b (splice xs at_ (List.replicate k c))
  but : But (· = b) w w'
theorem Filled.drewN {xs : List Int} {at_ : Nat} {c : Int} {b : Nat} {w w' : World} {k : Nat} (h : Filled xs at_ c b w k w') (d : Nat) : Filled xs at_ c b w k (w'.drewN d) := ⟨h.row.drewN d, h.but.drewN d⟩
theorem Filled.drew {xs : List Int} {at_ : Nat} {c : Int} {b : Nat} {w w' : World} {k : Nat} (h : Filled xs at_ c b w k w') : Filled xs at_ c b w k w'.drew := ⟨h.row.but ((But.refl (fun _ => False) _).drew) id, h.but.drew⟩

/-- One round: what has been laid, copied behind itself. -/
theorem Filled.round {xs : List Int} {at_ : Nat} {c : Int} {b : Nat} {w w' : World} {k n o o2 cap cap2 : Nat} (h : Filled xs at_ c b w k w') (hk : k < n) (hn : at_ + n ≤ xs.length) (ho : 0 < n → o = at_) (ho2 : 0 < n - k → o2 = o + k) :
    ∃ w'', (∀ ty, (Builtin.copy_ #[31, 31] ty #[.slice (some ⟨b, o2, none⟩) (n - k) cap2, .slice (some ⟨b, o, none⟩) k cap]).run Try.prog w' = .ok (.int .i64 ((Nat.min k (n - k) : Nat) : Int)) w'') ∧ Filled xs at_ c b w (k + Nat.min k (n - k)) w'' := by
  have h1 : Nat.min k (n - k) ≤ k := Nat.min_le_left _ _
  have h2 : Nat.min k (n - k) ≤ n - k := Nat.min_le_right _ _
  have hl : (List.replicate k c).length = k := List.length_replicate
  have hs : sub (splice xs at_ (List.replicate k c)) at_ k = List.replicate k c := by
    have := sub_splice (L := xs) (ys := List.replicate k c) (o := at_) (by rw [hl]; omega)
    rwa [hl] at this
  have hy := h.row.bytes (at_ := at_) (o := o) (k := k) (by rw [length_splice _ _ _ (by rw [hl]; omega)]; omega) (fun _ => ho (by omega))
  rw [hs] at hy
  obtain ⟨w'', hrun, R, B⟩ := copy_run h.row (at_ := at_ + k) (o := o2) (dLen := n - k) (dCap := cap2) (sCap := cap) hy (k := Nat.min k (n - k)) rfl (by rw [length_splice _ _ _ (by rw [hl]; omega)]; omega) (fun h => by rw [ho2 h, ho (by omega)])
  refine ⟨w'', hrun, ?_, h.but.trans B⟩
  rw [List.take_replicate, Nat.min_eq_left h1] at R
  have e := splice_splice (L := xs) (a := List.replicate k c) (b := List.replicate (Nat.min k (n - k)) c) (o := at_) (by rw [hl, List.length_replicate]; omega)
  rw [hl] at e
  rw [e, List.replicate_append_replicate] at R
  exact R

theorem fill_any {w : World} {b : Nat} {xs : List Int} (R : Row w b xs) (at_ o n cap : Nat) (c : Int) (hn : at_ + n ≤ xs.length) (ho : 0 < n → o = at_) (hcap : n ≤ cap) (c0 : 0 ≤ c) (c1 : c ≤ 255) :
    Calls Try.prog 35 #[.slice (some ⟨b, o, none⟩) n cap, .int .u8 c] w fun e w' => e = .returned (.tuple #[]) ∧ Row w' b (splice xs at_ (List.replicate n c)) ∧ But (· = b) w w' := by
  have hmax := R.max
  by_cases hz : c = 0
  · subst hz
    obtain ⟨w2, hrun, R2, B2⟩ := clear_run R (at_ := at_) (o := o) (n := n) (c := cap) hn ho
    have HR := Lib.hid R2
    have HB := Lib.hid B2
    clear hn ho hcap R2 B2 R hmax
    go_enter Try.func35, Try.ntmps35
    go_wp2
    first | go_end0 | refine bodyPost_ret (results_none rfl _ _ _) rfl ?_
    exact ⟨rfl, HR.out, HB.out⟩
  · have d0 : (c == 0) = false := by simpa using hz
    have hb1 : Bytes (w.alloc (.cells #[.int .u8 c] 5)) (w.heap.size + 1) (some ⟨w.heap.size, 0, none⟩) 1 [c] :=
      ⟨rfl, by omega, fun x hx => by simp at hx; subst hx; exact ⟨c0, c1⟩, fun _ => ⟨_, _, rfl, by omega, fun k s hs => by
        match k, hs with
        | 0, hs => simp at hs; subst hs; go_simp⟩⟩
    obtain ⟨k0, hk0⟩ : ∃ k0, k0 = Nat.min 1 n := ⟨_, rfl⟩
    have hk1 : k0 ≤ 1 := by rw [hk0]; exact Nat.min_le_left _ _
    have hkn : k0 ≤ n := by rw [hk0]; exact Nat.min_le_right _ _
    have hkp : 0 < n → 0 < k0 := fun h => by rw [hk0]; exact Nat.lt_min.2 ⟨by omega, h⟩
    obtain ⟨w2, hrun, R2, B2⟩ := copy_run (R.below (below1 w (.cells #[.int .u8 c] 5))) (at_ := at_) (o := o) (dLen := n) (dCap := cap) (sCap := 1) hb1 (k := k0) hk0 (by omega) ho
    have F0 : Hid (Filled xs at_ c b w k0 w2) := Lib.hid ⟨by
      have e : [c].take k0 = List.replicate k0 c := by
        match k0, hk1 with
        | 0, _ => rfl
        | 1, _ => rfl
      rw [← e]; exact R2, ((But.refl (· = b) w).alloc _).trans B2⟩
    have HN := Lib.hid hn
    have HO := Lib.hid ho
    have HC := Lib.hid hcap
    have HP := Lib.hid hkp
    clear hn ho hcap R2 B2 R hk0 hb1 hkp hz
    go_enter Try.func35, Try.ntmps35
    go_wp2
    go_loopw [4] (fun i wr => ∃ k : Nat, k ≤ n ∧ (0 < n → 0 < k) ∧ i = .int .i64 k ∧ Filled xs at_ c b w k wr) (fun i _ => n - (intOf i).toNat)
    case atStart => exact ⟨k0, hkn, HP.out, rfl, F0.out⟩
    case round =>
      obtain ⟨k, hk, hkp, rfl, hr⟩ := hrel
      clear hrun
      by_cases hlt : k < n
      · have dk : decide ((k : Int) < (n : Int)) = true := by simp; omega
        obtain ⟨o2, cap2, ho2, hcap2, hcut⟩ := cut_l (b := b) (o := o) (n := n) (c := cap) (i := k) (by omega) HC.out
        have hcut2 : ∀ v, (Instr.sliceAt 31 (.slice (some ⟨b, o, none⟩) n cap) none (some (.int .i64 (k : Int))) none).run Try.prog v = .ok (.slice (some ⟨b, o, none⟩) k cap) v := cut_h (n := n) (by have := HC.out; omega)
        obtain ⟨w4, hcopy, F4⟩ := hr.drew.round (n := n) (cap := cap) (cap2 := cap2) hlt HN.out HO.out ho2
        have hnm : n ≤ 4194304 := by have := HN.out; omega
        obtain ⟨j, hj⟩ : ∃ j, j = Nat.min k (n - k) := ⟨_, rfl⟩
        rw [← hj] at hcopy F4
        have j1 : j ≤ n - k := by rw [hj]; exact Nat.min_le_right _ _
        have j2 : 0 < j := by rw [hj]; exact Nat.lt_min.2 ⟨hkp (by omega), by omega⟩
        have hw : IntKind.i64.wrap ((k : Int) + (j : Int)) = (k : Int) + (j : Int) := IntWalk.i64_in _ (by omega)
        have F5 := Lib.hid F4
        have HR := Lib.hid hr
        clear F4 hj ho2 hcap2 hr
        go_wp2
        go_region
        all_goals
          go_wp2
          go_roundw
          case rel => exact ⟨k + j, by omega, fun _ => by omega, by simp, F5.out⟩
          case measure => simp [intOf]; omega
      · have dk : decide ((k : Int) < (n : Int)) = false := by simp; omega
        obtain rfl : k = n := by omega
        have HR := Lib.hid hr
        clear hr
        go_wp2
        first | go_end0 | refine bodyPost_ret (results_none rfl _ _ _) rfl ?_
        exact ⟨rfl, HR.out.row, HR.out.but⟩

section
variable {w : World} {p b : Nat} {m : Option Nat} {xs : List Int} {t l : Int}
theorem fill_nil (at_ n c : Int) (w : World) :
    Calls Try.prog 22 #[.pointer none, .int .i64 at_, .int .i64 n, .int .u8 c] w fun e w' => e = .returned (.int .i64 1) ∧ w = w' := by
  go_enter Try.func22, Try.ntmps22
  go_wp2_with fail
  refine (part_nil _ _ w).mono ?_
  rintro e w' ⟨rfl, rfl⟩
  go_wp2
  go_ret
  exact ⟨rfl, rfl⟩
theorem fill_bad (h : Ar w p b m xs t l) (at_ n c : Int) (ha : -9223372036854775808 ≤ at_ ∧ at_ ≤ 9223372036854775807) (hn : ¬ thereB xs.length at_ n) :
    Calls Try.prog 22 #[.pointer (some ⟨p, 0, none⟩), .int .i64 at_, .int .i64 n, .int .u8 c] w fun e w' => e = .returned (.int .i64 8) ∧ w = w' := by
  have HP := Lib.hid (part_bad h at_ n ha hn)
  clear hn ha
  go_enter Try.func22, Try.ntmps22
  go_wp2_with fail
  refine HP.out.mono ?_
  rintro e w' ⟨rfl, rfl⟩
  go_wp2
  go_ret
  exact ⟨rfl, rfl⟩
theorem fill_ok (h : Ar w p b m xs t l) (at_ n : Nat) (c : Int) (hn : at_ + n ≤ xs.length) (c0 : 0 ≤ c) (c1 : c ≤ 255) :
    Calls Try.prog 22 #[.pointer (some ⟨p, 0, none⟩), .int .i64 (at_ : Int), .int .i64 (n : Int), .int .u8 c] w fun e w' => e = .returned (.int .i64 0) ∧ Ar w' p b m (splice xs at_ (List.replicate n c)) (more t n) l ∧ But (Mine b m) w w' := by
  have hc := h.charge
  have HP := Lib.hid (part_ok h at_ n hn)
  have HN := Lib.hid hn
  have H := Lib.hid h
  clear hn h
  go_enter Try.func22, Try.ntmps22
  go_wp2_with fail
  refine HP.out.mono ?_
  rintro e w' ⟨o, c2, rfl, rfl, ho, hoc⟩
  have HO := Lib.hid ho
  have HC := Lib.hid hoc
  clear ho hoc HP
  go_wp2_with fail
  refine (charge_m m t l n _ H.out.mo).mono ?_
  rintro e w1 ⟨rfl, hm, hb⟩
  have A1 := Lib.hid (H.out.charged hm hb)
  have B1 := Lib.hid hb
  clear hm hb hc
  go_wp2_with fail
  refine (fill_any A1.out.row at_ o n c2 c HN.out HO.out HC.out c0 c1).mono ?_
  rintro e w2 ⟨rfl, R2, b2⟩
  have R3 := Lib.hid R2
  have B3 := Lib.hid b2
  clear R2 b2
  go_wp2
  go_ret
  exact ⟨rfl, A1.out.laid (length_splice _ _ _ (by rw [List.length_replicate]; exact HN.out)) R3.out B3.out, (B1.out.mineC b).trans (B3.out.mineB m)⟩
end
end Go.Proofs.Ytnopeifgcpibaaa
