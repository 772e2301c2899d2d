import Derived.Test.YtijkigibcpgciaaZShRef
/-
  The document's own answers for package shelf: find, without, Owner, Used.
-/
namespace Go.Proofs.Ytijkigibcpgciaa.Sh
open Go.ChangeShapes Go.WideShapes Go.ChangeAt Go.RowKit Go.Deep
set_option maxRecDepth 100000

section
variable {w : World} {l : List Int}
set_option maxHeartbeats 1000000 in
theorem refFind_at (v : Rv) (h : Ints w w.heap.size v.na v.N l) {i : Nat} {n : Int} (hi : l[i]? = some n) (hnd : l.Nodup) :
    Calls Try.prog 58 #[(.agg #[.slice v.oa v.K v.oc, .slice v.fa v.nf v.fc, .int .i64 v.c, .int .i64 v.B, .slice v.na v.N v.nc, .slice v.pa v.N v.pc, .slice v.qa v.M v.qc]), .int .i64 n] w (IB (i : Int) w) := by
  have H := Lib.hid (h.on (below1 w (.cells #[.slice v.oa v.K v.oc, .slice v.fa v.nf v.fc, .int .i64 v.c, .int .i64 v.B, .slice v.na v.N v.nc, .slice v.pa v.N v.pc, .slice v.qa v.M v.qc] 36)))
  have hN := h.max
  have hlt0 : i < v.N := by rw [← h.len]; exact (List.getElem?_eq_some_iff.1 hi).1
  have HI := Lib.hid hi
  have HD := Lib.hid hnd
  have B1 := Lib.hid (below1 w (.cells #[.slice v.oa v.K v.oc, .slice v.fa v.nf v.fc, .int .i64 v.c, .int .i64 v.B, .slice v.na v.N v.nc, .slice v.pa v.N v.pc, .slice v.qa v.M v.qc] 36))
  obtain ⟨w1, e1⟩ : ∃ w1, w1 = w.alloc (.cells #[.slice v.oa v.K v.oc, .slice v.fa v.nf v.fc, .int .i64 v.c, .int .i64 v.B, .slice v.na v.N v.nc, .slice v.pa v.N v.pc, .slice v.qa v.M v.qc] 36) := ⟨_, rfl⟩
  have c4 : w1.cell? ⟨w.heap.size, 4, none⟩ = some (.slice v.na v.N v.nc) := by rw [e1]; go_simp
  rw [← e1] at H B1
  have E1 := Lib.hid e1
  clear h hi hnd e1
  go_enter Try.func58, Try.ntmps58
  go_wp2
  rw [← E1.out]
  generalize hq : w.heap.size = q at c4 ⊢
  have HQ := Lib.hid hq
  clear hq
  go_loopw [5] (fun i' wr => ∃ k : Nat, k ≤ i ∧ i' = .int .i64 k ∧ wr = w1) (fun i' _ => i - (intOf i').toNat)
  case atStart => exact ⟨0, by omega, rfl, rfl⟩
  case round =>
    obtain ⟨k, hk, rfl, rfl⟩ := hrel
    have dk : decide ((k : Int) < (v.N : Int)) = true := by simp; omega
    obtain ⟨x, hx, _⟩ := H.out.at_ (k := k) (by omega)
    obtain ⟨b, o, ea, hb, hc⟩ := H.out.head (by omega)
    have hc := hc k x hx
    have EA := Lib.hid ea
    rw [ea] at c4
    by_cases e : k = i
    · have ex : x = n := by
        have := HI.out
        rw [← e, hx] at this
        exact Option.some.inj this
      have d2 : (x == n) = true := by simpa using ex
      have KE := Lib.hid e
      clear ex ea hx hb e
      go_wp2
      go_ret
      exact ⟨by rw [KE.out]; rfl, by have := B1.out; rw [HQ.out] at this ⊢; exact this⟩
    · have ex : ¬ x = n := fun q => by
        have h1 : l[k]? = l[i]? := by rw [hx, HI.out, q]
        have hki : k < i := by omega
        have hil : i < l.length := (List.getElem?_eq_some_iff.1 HI.out).1
        have := List.pairwise_iff_getElem.1 HD.out k i (by omega) hil hki
        rw [List.getElem?_eq_getElem (by omega), List.getElem?_eq_getElem hil] at h1
        exact this (Option.some.inj h1)
      have d2 : (x == n) = false := by simpa using ex
      clear ex ea hx hb
      go_wp2
      go_roundw
      case rel => exact ⟨k + 1, by omega, by go_num, trivial⟩
      case measure => simp [intOf]; omega
set_option maxHeartbeats 1000000 in
theorem refFind_no (v : Rv) (h : Ints w w.heap.size v.na v.N l) {n : Int} (hi : n ∉ l) :
    Calls Try.prog 58 #[(.agg #[.slice v.oa v.K v.oc, .slice v.fa v.nf v.fc, .int .i64 v.c, .int .i64 v.B, .slice v.na v.N v.nc, .slice v.pa v.N v.pc, .slice v.qa v.M v.qc]), .int .i64 n] w (IB (-1) w) := by
  have H := Lib.hid (h.on (below1 w (.cells #[.slice v.oa v.K v.oc, .slice v.fa v.nf v.fc, .int .i64 v.c, .int .i64 v.B, .slice v.na v.N v.nc, .slice v.pa v.N v.pc, .slice v.qa v.M v.qc] 36)))
  have hN := h.max
  have HI := Lib.hid hi
  have B1 := Lib.hid (below1 w (.cells #[.slice v.oa v.K v.oc, .slice v.fa v.nf v.fc, .int .i64 v.c, .int .i64 v.B, .slice v.na v.N v.nc, .slice v.pa v.N v.pc, .slice v.qa v.M v.qc] 36))
  obtain ⟨w1, e1⟩ : ∃ w1, w1 = w.alloc (.cells #[.slice v.oa v.K v.oc, .slice v.fa v.nf v.fc, .int .i64 v.c, .int .i64 v.B, .slice v.na v.N v.nc, .slice v.pa v.N v.pc, .slice v.qa v.M v.qc] 36) := ⟨_, rfl⟩
  have c4 : w1.cell? ⟨w.heap.size, 4, none⟩ = some (.slice v.na v.N v.nc) := by rw [e1]; go_simp
  rw [← e1] at H B1
  have E1 := Lib.hid e1
  clear h hi e1
  go_enter Try.func58, Try.ntmps58
  go_wp2
  rw [← E1.out]
  generalize hq : w.heap.size = q at c4 ⊢
  have HQ := Lib.hid hq
  clear hq
  go_loopw [5] (fun i' wr => ∃ k : Nat, k ≤ v.N ∧ i' = .int .i64 k ∧ wr = w1) (fun i' _ => v.N - (intOf i').toNat)
  case atStart => exact ⟨0, by omega, rfl, rfl⟩
  case round =>
    obtain ⟨k, hk, rfl, rfl⟩ := hrel
    by_cases hlt : k < v.N
    · have dk : decide ((k : Int) < (v.N : Int)) = true := by simp; omega
      obtain ⟨x, hx, _⟩ := H.out.at_ (k := k) (by omega)
      obtain ⟨b, o, ea, hb, hc⟩ := H.out.head (by omega)
      have hc := hc k x hx
      rw [ea] at c4
      have ex : ¬ x = n := fun q => HI.out (by rw [← q]; exact List.mem_of_getElem? hx)
      have d2 : (x == n) = false := by simpa using ex
      clear ex ea hx hb
      go_wp2
      go_roundw
      case rel => exact ⟨k + 1, by omega, by go_num, trivial⟩
      case measure => simp [intOf]; omega
    · have dk : decide ((k : Int) < (v.N : Int)) = false := by simp; omega
      go_wp2
      go_ret
      exact ⟨rfl, by have := B1.out; rw [HQ.out] at this ⊢; exact this⟩

/-! ### without -/
structure Wo (w0 : World) (l : List Int) (n : Int) (k : Nat) (u : Value) (w : World) : Prop where
  own : w.ownsRow w0.heap.size 3 1 u (((l.take k).filter (· != n)).length) ((((l.take k).filter (· != n))).map (Value.int .i64))
  below : Below w0.heap.size w0 w
theorem fil_step {k : Nat} {x n : Int} (hx : l[k]? = some x) : (l.take (k + 1)).filter (· != n) = (l.take k).filter (· != n) ++ (if x = n then [] else [x]) := by
  obtain ⟨hk, e⟩ := List.getElem?_eq_some_iff.1 hx
  rw [List.take_add_one, hx, Option.toList_some, List.filter_append]
  congr 1
  by_cases q : x = n
  · simp [q]
  · simp [q]
theorem fil_len (l : List Int) (n : Int) (k : Nat) : ((l.take k).filter (· != n)).length ≤ l.length := Nat.le_trans (List.length_filter_le _ _) (by rw [List.length_take]; omega)
set_option maxHeartbeats 1000000 in
theorem refWithout_any {a : Option Addr} {N c : Nat} {P : Nat → Prop} (h : Ip w P a N c l) (hN : N ≤ 100000) (up : Up w P) (n : Int) :
    Calls Try.prog 62 #[.slice a N c, .int .i64 n] w fun e w' => ∃ a' N' c', e = .returned (.slice a' N' c') ∧ Ip w' P a' N' c' (l.filter (· != n)) ∧ Below w.heap.size w w' := by
  have H := Lib.hid h.ints
  have HL := Lib.hid h.ints.len
  have UP := Lib.hid up
  have N0 : Hid (Wo w l n 0 (.slice none 0 0) w) := Lib.hid ⟨World.ownsRow_nil _ _ _ _, Below.refl _ _⟩
  clear h up
  go_enter Try.func62, Try.ntmps62
  go_wp2
  go_loopw [5, 6] (fun u i wr => ∃ k : Nat, k ≤ N ∧ i = .int .i64 k ∧ Hid (Wo w l n k u wr)) (fun _ i _ => N - (intOf i).toNat)
  case atStart => exact ⟨0, by omega, rfl, N0⟩
  case round =>
    obtain ⟨k, hk, rfl, HS⟩ := hrel
    clear N0
    by_cases hlt : k < N
    · have dk : decide ((k : Int) < (N : Int)) = true := by simp; omega
      obtain ⟨x, hx, _⟩ := H.out.at_ (k := k) hlt
      obtain ⟨b, o, rfl, hb, hc⟩ := H.out.head (by omega)
      have hc := (HS.out.below.cell (p := ⟨b, o + k, none⟩) hb).trans (hc k x hx)
      have fs := fil_step (n := n) hx
      by_cases q : x = n
      · have HN : Hid (Wo w l n (k + 1) _ _) := Lib.hid ⟨by rw [fs, if_pos q, List.append_nil]; exact HS.out.own, HS.out.below⟩
        have d2 : (x != n) = false := by simpa using q
        clear q fs hx hb HS
        go_wp2
        go_roundw
        case rel => exact ⟨k + 1, by omega, by go_num, HN⟩
        case measure => simp [intOf]; omega
      · have fl := fil_len l n k
        have hll := HL.out
        obtain ⟨g, cap, w2, hr, ho, hg, hl⟩ := app_one HS.out.own HS.out.below.size (by omega) x 31
        have HN : Hid (Wo w l n (k + 1) (.slice (some ⟨g, 0, none⟩) (((l.take k).filter (· != n)).length + 1) cap) w2) := Lib.hid ⟨by
          rw [fs, if_neg q, List.length_append]; exact ho, by
          refine Below.grown (HS.out.below.alloc HS.out.below.size _) hg ?_ (fun j hj => ?_)
          · have := HS.out.below.size
            simp
            omega
          · exact (HS.out.own.lt j hj).1⟩
        have R := Lib.hid hr
        have d2 : (x != n) = true := by simpa using q
        have hc2 := hc
        clear hr ho hg hl HS fs q hx hb fl hll
        go_wp2_with (at_builtin; refine wpList_append_run rfl _ _ rfl rfl rfl rfl R.out ?_)
        go_roundw
        case rel => exact ⟨k + 1, by omega, by go_num, HN⟩
        case measure => simp [intOf]; omega
    · have dk : decide ((k : Int) < (N : Int)) = false := by simp; omega
      obtain rfl : k = N := by omega
      have hll := HL.out
      have e1 : l.take k = l := List.take_of_length_le (by omega)
      have own := HS.out.own
      rw [e1] at own
      have HB := Lib.hid HS.out.below
      have hfit : ∀ y ∈ l.filter (· != n), -9223372036854775808 ≤ y ∧ y ≤ 9223372036854775807 := fun y hy => H.out.2.2.1 y (List.mem_filter.1 hy).1
      have fl := fil_len l n k
      rw [e1] at fl
      have HV : Hid (∃ a' N' c', u5 = .slice a' N' c' ∧ Ip wr P a' N' c' (l.filter (· != n))) := Lib.hid (by
        rcases own.2 with ⟨q1, q2⟩ | ⟨g, cap, cur, rfl, h1, h2, h3⟩
        · subst q1
          have q3 : l.filter (· != n) = [] := by
            have := own.1
            simp at q2
            exact List.filter_eq_nil_iff.2 (by simpa using q2)
          exact ⟨none, 0, 0, rfl, ⟨by rw [q3]; exact ⟨rfl, by omega, by simp, fun z => absurd z (by omega)⟩, by omega, fun z => absurd z (by omega)⟩⟩
        · obtain ⟨r1, r2⟩ := ints_own own (by omega) hfit
          exact ⟨_, _, _, rfl, ⟨r1, r2, fun _ => ⟨g, 0, rfl, UP.out g h1⟩⟩⟩)
      clear own HS fl hll e1 hfit
      obtain ⟨a', N', c', rfl, r⟩ := HV.out
      have HE := Lib.hid r
      clear r HV
      go_wp2
      go_ret
      exact ⟨a', N', c', rfl, HE.out, HB.out⟩
end
end Go.Proofs.Ytijkigibcpgciaa.Sh
