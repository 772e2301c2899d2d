/-
  Package bits: Low.
-/
import Derived.Test.YtijkigibcpgciaaPgBits
import Derived.OwnWalk
import Derived.WalkMore
import Derived.Deep.LoopGhost
namespace Go.Proofs.Ytijkigibcpgciaa.Pg
open Go.ChangeShapes Go.WideShapes Go.ChangeAt Go.RowKit
set_option maxRecDepth 100000

/-- The eight words, as a value. -/
abbrev arr (W : Nat → Nat) : Value := .agg #[.int .u64 (W 0 : Int), .int .u64 (W 1 : Int), .int .u64 (W 2 : Int), .int .u64 (W 3 : Int), .int .u64 (W 4 : Int), .int .u64 (W 5 : Int), .int .u64 (W 6 : Int), .int .u64 (W 7 : Int)]
theorem arr_at (a0 a1 a2 a3 a4 a5 a6 a7 : Int) (n : Nat) (hn : n < 8) (W : Nat → Int) (e0 : W 0 = a0) (e1 : W 1 = a1) (e2 : W 2 = a2) (e3 : W 3 = a3) (e4 : W 4 = a4) (e5 : W 5 = a5) (e6 : W 6 = a6) (e7 : W 7 = a7) (w : World) :
    (Instr.index 126 (.agg #[.int .u64 a0, .int .u64 a1, .int .u64 a2, .int .u64 a3, .int .u64 a4, .int .u64 a5, .int .u64 a6, .int .u64 a7]) (.int .i64 (n : Int))).run Try.prog w = .ok (.int .u64 (W n)) w := by
  rcases (by omega : n = 0 ∨ n = 1 ∨ n = 2 ∨ n = 3 ∨ n = 4 ∨ n = 5 ∨ n = 6 ∨ n = 7) with rfl | rfl | rfl | rfl | rfl | rfl | rfl | rfl
  · rw [e0]; kernel_rfl
  · rw [e1]; kernel_rfl
  · rw [e2]; kernel_rfl
  · rw [e3]; kernel_rfl
  · rw [e4]; kernel_rfl
  · rw [e5]; kernel_rfl
  · rw [e6]; kernel_rfl
  · rw [e7]; kernel_rfl

theorem low_nil (w : World) : Calls Try.prog 82 #[.pointer none] w (R1 (-1) w) := by
  go_enter Try.func82, Try.ntmps82
  go_wp2
  go_step3
  go_wp2
  rw [Exit.noGoto_ret]
  go_ret
  exact ⟨rfl, rfl⟩
section
variable {w : World} {p : Nat} {L : List Bool}
set_option maxHeartbeats 1000000 in
set_option maxRecDepth 20000 in
theorem low_any (h : Bm w p L) : Calls Try.prog 82 #[.pointer (some ⟨p, 0, none⟩)] w (R1 (lowOf L) w) := by
  obtain ⟨W, h⟩ := h
  have HK := Lib.hid (fun n hn => mask_any n hn w)
  have c0 := h.c 0 (by omega)
  have c1 := h.c 1 (by omega)
  have c2 := h.c 2 (by omega)
  have c3 := h.c 3 (by omega)
  have c4 := h.c 4 (by omega)
  have c5 := h.c 5 (by omega)
  have c6 := h.c 6 (by omega)
  have c7 := h.c 7 (by omega)
  have cm := h.m
  have l2 := h.l2
  have HW := Lib.hid h.wd
  have HA := Lib.hid (fun n hn => arr_at (W 0) (W 1) (W 2) (W 3) (W 4) (W 5) (W 6) (W 7) n hn (fun n => (W n : Int)) rfl rfl rfl rfl rfl rfl rfl rfl w)
  clear h
  go_enter Try.func82, Try.ntmps82
  go_wp2
  go_step3
  go_wp2
  go_step3
  go_wp2
  generalize (W 0 : Int) = a0 at HA ⊢
  generalize (W 1 : Int) = a1 at HA ⊢
  generalize (W 2 : Int) = a2 at HA ⊢
  generalize (W 3 : Int) = a3 at HA ⊢
  generalize (W 4 : Int) = a4 at HA ⊢
  generalize (W 5 : Int) = a5 at HA ⊢
  generalize (W 6 : Int) = a6 at HA ⊢
  generalize (W 7 : Int) = a7 at HA ⊢
  clear c0 c1 c2 c3 c4 c5 c6 c7
  go_loopg [13] 8 (fun g s13 wx => ∃ n : Nat, n + g = 8 ∧ s13 = .int .i64 n ∧ Hid (∀ j, j < n * 64 → bt L j = true) ∧ wx = w)
  case atStart => exact ⟨0, by omega, rfl, Lib.hid (fun j hj => by omega), rfl⟩
  case round =>
    obtain ⟨n, hn, rfl, HB, rfl⟩ := hrel
    cases gk with
    | zero =>
      have dn : decide ((n : Int) < 8) = false := by simp; omega
      have E : Hid (lowOf L = -1) := Lib.hid (low_none fun j hj => HB.out j (by omega))
      go_wp2
      rw [E.out]
      try rw [Exit.noGoto_ret]
      go_ret
      exact ⟨rfl, rfl⟩
    | succ g =>
      have dn : decide ((n : Int) < 8) = true := by simp; omega
      have hr := HA.out n (by omega)
      go_wp2
      clear hr
      have HX := Lib.hid (HW.out n (by omega))
      generalize W n = x at HX ⊢
      go_loopg [17] 64 (fun g2 s17 wy => ∃ i : Nat, i + g2 = 64 ∧ s17 = .int .i64 i ∧ Hid (∀ j, j < n * 64 + i → bt L j = true) ∧ wy = wr)
      case atStart => exact ⟨0, by omega, rfl, HB, rfl⟩
      case round =>
        obtain ⟨i, hi, rfl, HI, rfl⟩ := hrel
        cases gk with
        | zero =>
          have di : decide ((i : Int) < 64) = false := by simp; omega
          go_wp2
          go_roundg g
          case measure => omega
          case rel => exact ⟨n + 1, by omega, by go_num, Lib.hid (fun j hj => HI.out j (by omega)), rfl⟩
        | succ g2 =>
          have di : decide ((i : Int) < 64) = true := by simp; omega
          by_cases hat : n * 64 + i = L.length
          · have da : ((n : Int) * 64 + (i : Int) == (L.length : Int)) = true := by simp; omega
            have E : Hid (lowOf L = -1) := Lib.hid (low_none fun j hj => HI.out j (by omega))
            go_wp2
            rw [E.out]
            try rw [Exit.noGoto_ret]
            go_ret
            exact ⟨rfl, rfl⟩
          · have da : ((n : Int) * 64 + (i : Int) == (L.length : Int)) = false := by simp; omega
            have hlt : n * 64 + i < L.length := by
              rcases Nat.lt_or_ge (n * 64 + i) L.length with q | q
              · exact q
              · have := bt_in (HI.out L.length (by omega)); omega
            obtain ⟨at_, hA⟩ : ∃ at_ : Nat, at_ = n * 64 + i := ⟨_, rfl⟩
            have K := HK.out at_ (by omega)
            have w1 : IntKind.i64.wrap ((n : Int) * 64) = (n : Int) * 64 := IntWalk.i64_in _ (by omega)
            have w2 : IntKind.i64.wrap ((n : Int) * 64 + (i : Int)) = (at_ : Int) := by rw [IntWalk.i64_in _ (by omega)]; omega
            have db : ((at_ : Int) == (L.length : Int)) = false := by simp; omega
            obtain ⟨ea, ez⟩ := and_word (k := at_) (by rw [show at_ / 64 = n by omega]; exact HX.out)
            have en : ((((x &&& 2 ^ (at_ % 64) : Nat) : Int)) == 0) = !(bt L at_) := by
              cases b : bt L at_
              · rw [ez.2 b]; rfl
              · have : (x &&& 2 ^ (at_ % 64) : Nat) ≠ 0 := fun q => by rw [ez.1 q] at b; cases b
                simp
                omega
            have HZ := Lib.hid hA
            have HT := Lib.hid hlt
            clear ez da hA hlt hat
            generalize (x &&& 2 ^ (at_ % 64) : Nat) = y at ea en
            generalize (2 ^ (at_ % 64) : Nat) = z at ea K
            have KK := Lib.hid K
            clear K
            cases b : bt L at_ with
            | false =>
              rw [b] at en
              have E : Hid (lowOf L = (at_ : Int)) := Lib.hid (low_at (by have := HT.out; have := HZ.out; omega) b fun j hj => HI.out j (by have := HZ.out; omega))
              clear b
              go_wp2_with fail
              refine KK.out.mono ?_
              rintro e w' ⟨rfl, rfl⟩
              go_wp2
              rw [E.out]
              try rw [Exit.noGoto_ret]
              go_ret
              exact ⟨rfl, rfl⟩
            | true =>
              rw [b] at en
              have HN : Hid (∀ j, j < n * 64 + (i + 1) → bt L j = true) := Lib.hid (fun j hj => by
                by_cases q : j = at_
                · rw [q]; exact b
                · exact HI.out j (by have := HZ.out; omega))
              clear b
              go_wp2_with fail
              refine KK.out.mono ?_
              rintro e w' ⟨rfl, rfl⟩
              go_wp2
              go_roundg g2
              case measure => omega
              case rel => exact ⟨i + 1, by omega, by go_num, HN, rfl⟩
end
end Go.Proofs.Ytijkigibcpgciaa.Pg
