/-
  Package bits: High, Count.
-/
import Derived.Test.YtijkigibcpgciaaPgBitsLow
namespace Go.Proofs.Ytijkigibcpgciaa.Pg
open Go.ChangeShapes Go.WideShapes Go.ChangeAt Go.RowKit
set_option maxRecDepth 100000

theorem high_nil (w : World) : Calls Try.prog 84 #[.pointer none] w (R1 (-1) w) := by
  go_enter Try.func84, Try.ntmps84
  go_wp2
  go_ret
  exact ⟨rfl, rfl⟩
theorem count_nil (w : World) : Calls Try.prog 91 #[.pointer none] w (R1 0 w) := by
  go_enter Try.func91, Try.ntmps91
  go_wp2
  go_ret
  exact ⟨rfl, rfl⟩
section
variable {w : World} {p : Nat} {L : List Bool} {W : Nat → Nat}
theorem words_off {n i : Nat} (h : ∀ n, n < 8 → Wd (W n) L (n * 64)) (l2 : L.length ≤ 512) (hW : ∀ m, n < m → m < 8 → W m = 0) (hx : W n < 2 ^ i) : ∀ j, n * 64 + i ≤ j → bt L j = false := by
  intro j hj
  rcases Nat.lt_or_ge j L.length with q | q
  · have e : j / 64 * 64 + j % 64 = j := by omega
    have hb := (h (j / 64) (by omega)).2 (j % 64) (Nat.mod_lt _ (by omega))
    rw [e] at hb
    rw [← hb]
    by_cases z : j / 64 = n
    · rw [z]
      exact bits_above hx (by omega)
    · rw [hW (j / 64) (by omega) (by omega)]
      simp
  · exact bt_out q
set_option maxHeartbeats 1000000 in
set_option maxRecDepth 20000 in
theorem high_any (h : Bm w p L) : Calls Try.prog 84 #[.pointer (some ⟨p, 0, none⟩)] w (R1 (highOf L) w) := by
  obtain ⟨W, h⟩ := h
  have l2 := h.l2
  have HW := Lib.hid h.wd
  have HC := Lib.hid h.c
  clear h
  go_enter Try.func84, Try.ntmps84
  go_wp2
  go_loopg [3] 8 (fun g s3 wx => ∃ z : Int, g ≤ 8 ∧ z = (g : Int) - 1 ∧ s3 = .int .i64 z ∧ Hid (∀ m, g ≤ m → m < 8 → W m = 0) ∧ wx = w)
  case atStart => exact ⟨7, by omega, rfl, rfl, Lib.hid (fun j h1 h2 => by omega), rfl⟩
  case round =>
    obtain ⟨z, hg, hz, rfl, HB, rfl⟩ := hrel
    cases gk with
    | zero =>
      have dn : decide ((0 : Int) ≤ z) = false := by simp; omega
      have E : Hid (highOf L = -1) := Lib.hid (high_none fun j => words_off (n := 0) (i := 0) HW.out l2 (fun m _ h8 => HB.out m (by omega) h8) (by rw [HB.out 0 (by omega) (by omega)]; omega) j (by omega))
      go_wp2
      rw [E.out]
      go_ret
      exact ⟨rfl, rfl⟩
    | succ g =>
      obtain rfl : z = (g : Int) := by omega
      clear hz
      have g8 : g < 8 := by omega
      have dn : decide ((0 : Int) ≤ (g : Int)) = true := by simp
      have hc := HC.out g (by omega)
      have HX := Lib.hid (HW.out g (by omega)).1
      go_wp2
      go_loopg [4] 64 (fun g2 s4 wy => ∃ y : Int, g2 ≤ 64 ∧ y = (g2 : Int) - 1 ∧ s4 = .int .i64 y ∧ Hid (W g < 2 ^ g2) ∧ wy = wr)
      case atStart => exact ⟨63, by omega, rfl, rfl, Lib.hid HX.out, rfl⟩
      case round =>
        obtain ⟨y, h2, hy, rfl, HI, rfl⟩ := hrel
        cases gk with
        | zero =>
          have di : decide ((0 : Int) ≤ y) = false := by simp; omega
          have HN : Hid (∀ m, g ≤ m → m < 8 → W m = 0) := Lib.hid (fun m h1 h8 => by
            by_cases q : m = g
            · have := HI.out; rw [q]; simp at this; exact this
            · exact HB.out m (by omega) h8)
          go_wp2
          go_roundg g
          case measure => omega
          case rel => exact ⟨(g : Int) - 1, by omega, rfl, by go_num, HN, rfl⟩
        | succ i =>
          obtain rfl : y = (i : Int) := by omega
          clear hy
          have di : decide ((0 : Int) ≤ (i : Int)) = true := by simp
          have ht := top_bit HI.out
          have hs : ((W g : Int) / 2 ^ i) = ((W g / 2 ^ i : Nat) : Int) := by simp
          have hb := (HW.out g g8).2 i (by omega)
          rw [hb] at ht
          cases b : bt L (g * 64 + i) with
          | false =>
            rw [b] at ht
            have en : (((W g : Int) / 2 ^ i) != 0) = false := by rw [hs, ht]; rfl
            have HN : Hid (W g < 2 ^ i) := Lib.hid (by
              rcases Nat.lt_or_ge (W g) (2 ^ i) with q | q
              · exact q
              · have := Nat.div_pos q (Nat.two_pow_pos i); simp at ht; omega)
            clear b hb ht hs
            go_wp2
            go_roundg i
            case measure => omega
            case rel => exact ⟨(i : Int) - 1, by omega, rfl, by go_num, HN, rfl⟩
          | true =>
            rw [b] at ht
            have en : (((W g : Int) / 2 ^ i) != 0) = true := by rw [hs, ht]; rfl
            have E : Hid (highOf L = (g : Int) * 64 + (i : Int)) := Lib.hid (by
              have := high_at b (fun j hj => words_off (n := g) (i := i + 1) HW.out l2 (fun m h1 h8 => HB.out m (by omega) h8) HI.out j (by omega))
              rw [this]; omega)
            clear b hb ht hs
            go_wp2
            rw [E.out]
            go_ret
            exact ⟨rfl, rfl⟩
end
end Go.Proofs.Ytijkigibcpgciaa.Pg
