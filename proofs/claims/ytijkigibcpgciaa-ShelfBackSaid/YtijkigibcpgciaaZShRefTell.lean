import Derived.Test.YtijkigibcpgciaaZShRefWith
/-
  The document's own answers for package shelf: Owner, Used.
-/
namespace Go.Proofs.Ytijkigibcpgciaa.Sh
open Go.ChangeShapes Go.WideShapes Go.ChangeAt Go.RowKit Go.Deep
set_option maxRecDepth 100000

theorem mem_idx {ps : Ps} {n : Int} {X : List Int} (h : (n, X) ∈ ps) : ∃ i : Nat, ps[i]? = some (n, X) ∧ (nums ps)[i]? = some n ∧ i < ps.length := by
  obtain ⟨i, hi, e⟩ := List.getElem_of_mem h
  refine ⟨i, by rw [List.getElem?_eq_getElem hi, e], ?_, hi⟩
  unfold nums
  rw [List.getElem?_map, List.getElem?_eq_getElem hi, e]
  rfl
section
variable {w : World} {P : Nat → Prop} {v : Rv} {s : Shl}
set_option maxHeartbeats 1000000 in
theorem refShOwner_any (h : Rs w P v s) (hnd : (nums s.ps).Nodup) (n k : Int) :
    Calls Try.prog 36 #[(.agg #[.slice v.oa v.K v.oc, .slice v.fa v.nf v.fc, .int .i64 v.c, .int .i64 v.B, .slice v.na v.N v.nc, .slice v.pa v.N v.pc, .slice v.qa v.M v.qc]), .int .i64 n, .int .i64 k] w (IB (ownerS s n k) w) := by
  have hA := h.on (below1 w (.cells #[.slice v.oa v.K v.oc, .slice v.fa v.nf v.fc, .int .i64 v.c, .int .i64 v.B, .slice v.na v.N v.nc, .slice v.pa v.N v.pc, .slice v.qa v.M v.qc] 36))
  have hb := below1 w (.cells #[.slice v.oa v.K v.oc, .slice v.fa v.nf v.fc, .int .i64 v.c, .int .i64 v.B, .slice v.na v.N v.nc, .slice v.pa v.N v.pc, .slice v.qa v.M v.qc] 36)
  have BB : Hid (Below w.heap.size w (w.alloc (.cells #[.slice v.oa v.K v.oc, .slice v.fa v.nf v.fc, .int .i64 v.c, .int .i64 v.B, .slice v.na v.N v.nc, .slice v.pa v.N v.pc, .slice v.qa v.M v.qc] 36))) := Lib.hid hb
  unfold ownerS
  cases hg : getP s.ps n with
  | none =>
    have HF := Lib.hid (refFind_no v hA.nums.ints (get_none.1 hg))
    clear h hnd hA hg hb
    go_enter Try.func36, Try.ntmps36
    go_wp2_with fail
    refine HF.out.mono ?_
    rintro e w2 ⟨rfl, b2⟩
    have B2 := Lib.hid (belowT BB.out b2)
    clear b2
    go_wp2
    go_ret
    exact ⟨rfl, B2.out⟩
  | some X =>
    obtain ⟨i, hi, hin, hil⟩ := mem_idx (get_mem hg)
    have HF := Lib.hid (refFind_at v hA.nums.ints hin hnd)
    have hN := hA.numN
    have HA := Lib.hid hA
    have HI := Lib.hid hi
    have A5 : Hid ((w.alloc (.cells #[.slice v.oa v.K v.oc, .slice v.fa v.nf v.fc, .int .i64 v.c, .int .i64 v.B, .slice v.na v.N v.nc, .slice v.pa v.N v.pc, .slice v.qa v.M v.qc] 36)).cell? ⟨w.heap.size, 5, none⟩ = some (.slice v.pa v.N v.pc)) := Lib.hid (by go_simp)
    have hiN : i < v.N := by omega
    have LT : Hid (w.heap.size < (w.alloc (.cells #[.slice v.oa v.K v.oc, .slice v.fa v.nf v.fc, .int .i64 v.c, .int .i64 v.B, .slice v.na v.N v.nc, .slice v.pa v.N v.pc, .slice v.qa v.M v.qc] 36)).heap.size) := Lib.hid (by simp)
    clear h hnd hA hg hb hi hin hil hN
    dsimp only
    go_enter Try.func36, Try.ntmps36
    go_wp2_with fail
    refine HF.out.mono ?_
    rintro e w2 ⟨rfl, b2⟩
    obtain ⟨b, o, g, cap, ea, hc, hI, _, h1, hbl⟩ := (HA.out.on b2).at_ HI.out
    have x5 := (b2.cell (p := ⟨w.heap.size, 5, none⟩) LT.out).trans A5.out
    rw [ea] at x5
    have HO := Lib.hid (Pg.refOwner_any (c := cap) hI k)
    have B2 := Lib.hid (belowT BB.out b2)
    have d1 : decide ((i : Int) < 0) = false := by simp
    generalize X.length = n' at hc HO
    clear b2 hI h1 hbl HA HI HF A5 LT BB ea
    go_wp2_with fail
    refine HO.out.mono ?_
    rintro e w3 ⟨rfl, rfl⟩
    go_wp2
    go_ret
    exact ⟨rfl, B2.out⟩
theorem used_take {ps : Ps} {k : Nat} {n : Int} {X : List Int} (h : ps[k]? = some (n, X)) : usedS (ps.take (k + 1)) = usedS (ps.take k) + Pg.usedN X := by
  obtain ⟨hk, e⟩ := List.getElem?_eq_some_iff.1 h
  rw [List.take_add_one, h, Option.toList_some, used_app]
set_option maxHeartbeats 1000000 in
theorem refShUsed_any (h : Rs w P v s) {B : Nat} (hlen : ∀ n X, (n, X) ∈ s.ps → X.length = B) (hB : B ≤ 512) (hN : v.N ≤ 1024) :
    Calls Try.prog 27 #[(.agg #[.slice v.oa v.K v.oc, .slice v.fa v.nf v.fc, .int .i64 v.c, .int .i64 v.B, .slice v.na v.N v.nc, .slice v.pa v.N v.pc, .slice v.qa v.M v.qc])] w (IB (usedS s.ps : Int) w) := by
  have HA := Lib.hid (h.on (below1 w (.cells #[.slice v.oa v.K v.oc, .slice v.fa v.nf v.fc, .int .i64 v.c, .int .i64 v.B, .slice v.na v.N v.nc, .slice v.pa v.N v.pc, .slice v.qa v.M v.qc] 36)))
  have hNN := h.numN
  have BB : Hid (Below w.heap.size w (w.alloc (.cells #[.slice v.oa v.K v.oc, .slice v.fa v.nf v.fc, .int .i64 v.c, .int .i64 v.B, .slice v.na v.N v.nc, .slice v.pa v.N v.pc, .slice v.qa v.M v.qc] 36))) := Lib.hid (below1 w (.cells #[.slice v.oa v.K v.oc, .slice v.fa v.nf v.fc, .int .i64 v.c, .int .i64 v.B, .slice v.na v.N v.nc, .slice v.pa v.N v.pc, .slice v.qa v.M v.qc] 36))
  obtain ⟨w1, e1⟩ : ∃ w1, w1 = w.alloc (.cells #[.slice v.oa v.K v.oc, .slice v.fa v.nf v.fc, .int .i64 v.c, .int .i64 v.B, .slice v.na v.N v.nc, .slice v.pa v.N v.pc, .slice v.qa v.M v.qc] 36) := ⟨_, rfl⟩
  have c5 : w1.cell? ⟨w.heap.size, 5, none⟩ = some (.slice v.pa v.N v.pc) := by rw [e1]; go_simp
  rw [← e1] at HA BB
  have E1 := Lib.hid e1
  have HL := Lib.hid hlen
  have HNN := Lib.hid hNN
  have HU : Hid (∀ k, k ≤ v.N → usedS (s.ps.take k) ≤ 1000000) := Lib.hid fun k hk => by
    have := usedS_le (B := B) (ps := s.ps.take k) (fun n X q => hlen n X (List.mem_of_mem_take q))
    rw [List.length_take] at this
    have h2 : min k s.ps.length * B ≤ 1024 * 512 := Nat.mul_le_mul (by omega) hB
    omega
  clear h e1 hlen hNN
  go_enter Try.func27, Try.ntmps27
  go_wp2
  rw [← E1.out]
  generalize hq : w.heap.size = q at c5 ⊢
  have HQ := Lib.hid hq
  clear hq
  go_loopw [3, 4] (fun u i wr => ∃ k : Nat, k ≤ v.N ∧ i = .int .i64 k ∧ u = .int .i64 (usedS (s.ps.take k) : Int) ∧ wr = w1) (fun _ i _ => v.N - (intOf i).toNat)
  case atStart => exact ⟨0, by omega, rfl, by rfl, rfl⟩
  case round =>
    obtain ⟨k, hk, rfl, rfl, rfl⟩ := hrel
    by_cases hlt : k < v.N
    · have dk : decide ((k : Int) < (v.N : Int)) = true := by simp; omega
      have hkl : k < s.ps.length := by rw [← HNN.out]; exact hlt
      obtain ⟨⟨m, X⟩, hx⟩ : ∃ q, s.ps[k]? = some q := ⟨_, List.getElem?_eq_getElem hkl⟩
      obtain ⟨b, o, g, cap, ea, hc, hI, _, h1, hbl⟩ := HA.out.at_ hx
      rw [ea] at c5
      have lX := HL.out m X (List.mem_of_getElem? hx)
      have HO := Lib.hid (Pg.refUsed_any (c := cap) hI (by omega))
      have ut := used_take hx
      have U1 := HU.out k hk
      have U2 := HU.out (k + 1) (by omega)
      rw [ut] at U2
      have hwr : IntKind.i64.wrap (((usedS (s.ps.take k) : Nat) : Int) + ((Pg.usedN X : Nat) : Int)) = ((usedS (s.ps.take k) + Pg.usedN X : Nat) : Int) := by
        rw [← Int.natCast_add]; exact IntWalk.i64_in _ (by omega)
      rw [← ut] at hwr
      generalize Pg.usedN X = y at HO hwr
      obtain ⟨y2, hy2⟩ : ∃ y2, y2 = usedS (s.ps.take (k + 1)) := ⟨_, rfl⟩
      rw [← hy2] at hwr
      have Y2 := Lib.hid hy2
      clear hy2
      generalize hy1 : usedS (s.ps.take k) = y1 at hwr
      generalize X.length = n' at hc HO
      clear hI h1 hbl ea lX ut U1 U2 hy1 hx
      go_wp2_with fail
      refine HO.out.mono ?_
      rintro e w3 ⟨rfl, rfl⟩
      go_wp2
      go_roundw
      case rel => exact ⟨k + 1, by omega, by go_num, by rw [Y2.out], trivial⟩
      case measure => simp [intOf]; omega
    · have dk : decide ((k : Int) < (v.N : Int)) = false := by simp; omega
      have e1 : s.ps.take k = s.ps := List.take_of_length_le (by rw [← HNN.out]; omega)
      rw [e1]
      go_wp2
      go_ret
      exact ⟨rfl, by have := BB.out; rw [HQ.out] at this ⊢; exact this⟩
end
end Go.Proofs.Ytijkigibcpgciaa.Sh
