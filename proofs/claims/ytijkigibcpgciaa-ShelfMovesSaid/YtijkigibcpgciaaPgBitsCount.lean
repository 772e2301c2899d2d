/-
  Package bits: Count.
-/
import Derived.Test.YtijkigibcpgciaaPgBitsHigh
namespace Go.Proofs.Ytijkigibcpgciaa.Pg
open Go.ChangeShapes Go.WideShapes Go.ChangeAt Go.RowKit
set_option maxRecDepth 100000
section
variable {w : World} {p : Nat} {L : List Bool}
set_option maxHeartbeats 1000000 in
set_option maxRecDepth 20000 in
theorem count_any (h : Bm w p L) : Calls Try.prog 91 #[.pointer (some ⟨p, 0, none⟩)] w (R1 ((L.count true : Nat) : Int) w) := by
  obtain ⟨W, h⟩ := h
  have c0 := h.c 0 (by omega)
  have c1 := h.c 1 (by omega)
  have c2 := h.c 2 (by omega)
  have c3 := h.c 3 (by omega)
  have c4 := h.c 4 (by omega)
  have c5 := h.c 5 (by omega)
  have c6 := h.c 6 (by omega)
  have c7 := h.c 7 (by omega)
  have HE : Hid (cntOf L 0 512 = L.count true) := Lib.hid (cnt_all h.l2)
  have HW := Lib.hid h.wd
  have HA := Lib.hid (fun n hn => arr_at (W 0) (W 1) (W 2) (W 3) (W 4) (W 5) (W 6) (W 7) n hn (fun n => (W n : Int)) rfl rfl rfl rfl rfl rfl rfl rfl w)
  clear h
  go_enter Try.func91, Try.ntmps91
  go_wp2
  generalize (W 0 : Int) = a0 at HA ⊢
  generalize (W 1 : Int) = a1 at HA ⊢
  generalize (W 2 : Int) = a2 at HA ⊢
  generalize (W 3 : Int) = a3 at HA ⊢
  generalize (W 4 : Int) = a4 at HA ⊢
  generalize (W 5 : Int) = a5 at HA ⊢
  generalize (W 6 : Int) = a6 at HA ⊢
  generalize (W 7 : Int) = a7 at HA ⊢
  clear c0 c1 c2 c3 c4 c5 c6 c7
  go_loopg [3, 12] 8 (fun g s3 s12 wx => ∃ n c : Nat, n + g = 8 ∧ s12 = .int .i64 n ∧ s3 = .int .i64 c ∧ Hid (c = cntOf L 0 (n * 64)) ∧ wx = w)
  case atStart => exact ⟨0, 0, by omega, rfl, rfl, Lib.hid (by simp [cntOf]), rfl⟩
  case round =>
    obtain ⟨n, c, hn, rfl, rfl, HB, rfl⟩ := hrel
    cases gk with
    | zero =>
      have dn : decide ((n : Int) < 8) = false := by simp; omega
      have E : Hid (L.count true = c) := Lib.hid (by rw [HB.out, ← HE.out, show n = 8 by omega])
      go_wp2
      rw [E.out]
      go_ret
      exact ⟨rfl, rfl⟩
    | succ g =>
      have dn : decide ((n : Int) < 8) = true := by simp; omega
      have hr := HA.out n (by omega)
      go_wp2
      clear hr
      have HX := Lib.hid (HW.out n (by omega))
      have HS : Hid (c + pc 64 (W n) = cntOf L 0 ((n + 1) * 64) ∧ c ≤ 512) := Lib.hid (by
        have h1 := HX.out.pc
        have h2 := cnt_split L 0 (n * 64) 64
        have h3 := cnt_le L 0 (n * 64)
        have h4 := HB.out
        rw [Nat.zero_add] at h2
        rw [h1, h4, show (n + 1) * 64 = n * 64 + 64 by omega, h2]
        omega)
      generalize hx : W n = x at HX HS ⊢
      clear hx
      go_loopg [3, 5] x (fun g2 s3 s5 wy => ∃ d : Nat, s5 = .int .u64 (g2 : Int) ∧ s3 = .int .i64 d ∧ g2 < 18446744073709551616 ∧ Hid (d + pc 64 g2 = cntOf L 0 ((n + 1) * 64)) ∧ d ≤ 600 ∧ wy = wr)
      case atStart => exact ⟨c, rfl, rfl, HX.out.1, Lib.hid HS.out.1, by have := HS.out.2; omega, rfl⟩
      case round =>
        obtain ⟨d, rfl, rfl, hlt, HI, hd, rfl⟩ := hrel
        by_cases h0 : gk = 0
        · subst h0
          have HN : Hid (d = cntOf L 0 ((n + 1) * 64)) := Lib.hid (by have := HI.out; rw [pc_zero] at this; exact this)
          go_wp2
          go_roundg g
          case measure => omega
          case rel => exact ⟨n + 1, d, by omega, by go_num, rfl, HN, rfl⟩
        · have en : ((gk : Int) != 0) = true := by simp; omega
          have wx : IntKind.u64.wrap ((gk : Int) - 1) = ((gk - 1 : Nat) : Int) := by rw [IntKind.wrap_u64]; omega
          have ea := bits_and_u64_nat gk (gk - 1) hlt (by omega)
          have HP : Hid (pc 64 (gk &&& (gk - 1)) + 1 = pc 64 gk) := Lib.hid (pc_pred 64 gk hlt h0)
          have HL : Hid ((gk &&& (gk - 1)) < gk) := Lib.hid (and_pred_lt h0)
          have HQ : Hid (d + 1 ≤ 512) := Lib.hid (by have h1 := HI.out; have h2 := HP.out; have h3 := cnt_le L 0 ((n + 1) * 64); omega)
          generalize gk &&& (gk - 1) = y at ea HP HL
          generalize gk - 1 = v at wx ea
          go_wp2
          go_roundg y
          case measure => have := HL.out; omega
          case rel => exact ⟨d + 1, rfl, by go_num, by have := HL.out; omega, Lib.hid (by have := HP.out; have := HI.out; omega), by have := HQ.out; omega, rfl⟩
end
end Go.Proofs.Ytijkigibcpgciaa.Pg
