import Derived.Test.YtfkegbipfekbdaaZClassNum
import Derived.Test.YtfkegbipfekbdaaZPgBitsNum
import Derived.Deep.QuietTactic
import Derived.BigQuiet
import Derived.Test.YtfkegbipfekbdaaZChainNum
import Derived.Lib.Hide
/-
  Pick of package class, and the document's own answer for it (almeryref02.Pick), each met by a contract: whatever slice of ints and whatever number come in, they return the plain number 'pick', and leave the memory alone.
-/
namespace Go.Proofs.Ytfkegbipfekbdaa
open Go.ChangeShapes Go.WideShapes Go.ChangeAt Go.RowKit

theorem pick_any (a : Option Addr) (n c : Nat) (xs : List Int) (m : Int) (B : Nat) (w : World) (h : Ints w B a n xs) :
    Calls Try.prog 34 #[.slice a n c, .int .i64 m] w (R1 (pick xs m) w) := by
  have hmax := h.max
  by_cases hm : m < 1
  · rw [pick_off hm]
    go_enter Try.func34, Try.ntmps34
    go_wp2
    go_ret
    exact ⟨rfl, rfl⟩
  · go_enter Try.func34, Try.ntmps34
    go_wp2
    go_loop [11] (fun i => ∃ k : Nat, k ≤ n ∧ i = .int .i64 k ∧ Less xs m k) (fun i => n - (intOf i).toNat)
    case atStart => exact ⟨0, Nat.zero_le _, rfl, Less.zero _ _⟩
    case round =>
      obtain ⟨k, hk, rfl, hl⟩ := hrel
      by_cases hlt : k < n
      · obtain ⟨s, hs, s1, s2⟩ := h.at_ hlt
        obtain ⟨b, o, rfl, hb, hc⟩ := h.head (by omega)
        have hcell := hc k s hs
        have HS := Lib.hid hs
        clear hc hs
        by_cases hms : m ≤ s
        · have HF := Lib.hid (pick_hit (by omega) HS.out hl hms)
          go_wp2
          go_ret
          rw [HF.out]
          exact ⟨rfl, rfl⟩
        · have hsm : s < m := by omega
          have HN := hl.next HS.out hsm
          go_wp2
          go_round
          case rel => exact ⟨k + 1, by omega, by go_num, HN⟩
          case measure => simp [intOf]; omega
      · have HF := Lib.hid (pick_none (xs := xs) (m := m) (by rw [h.len]; have e : n = k := by omega
                                                              rw [e]; exact hl))
        go_wp2
        go_ret
        rw [HF.out]
        exact ⟨rfl, rfl⟩

end Go.Proofs.Ytfkegbipfekbdaa
/-
  The callees of package unit: count and wrongOf, each met by a contract.
-/
namespace Go.Proofs.Ytfkegbipfekbdaa
open Go.ChangeShapes Go.WideShapes Go.ChangeAt Go.RowKit

/-! ### The callees -/
theorem count_even (n b : Int) (w : World) (hn : 1 ≤ n) (hb : 1 ≤ b) (hm : n ≤ 9223372036854775807) (h : (n % b != 0) = false) :
    Calls Try.prog 82 #[.int .i64 n, .int .i64 b] w fun e w' => e = .returned (.tuple #[.int .i64 (n / b), .int .i64 (n / b)]) ∧ w = w' := by
  obtain ⟨h1, h2, h3, h4, h5⟩ := div_facts hn hb
  clear h3
  go_enter Try.func82, Try.ntmps82
  go_wp2
  go_ret2
  exact ⟨rfl, rfl⟩

theorem count_odd (n b : Int) (w : World) (hn : 1 ≤ n) (hb : 1 ≤ b) (hm : n ≤ 9223372036854775807) (h : (n % b != 0) = true) :
    Calls Try.prog 82 #[.int .i64 n, .int .i64 b] w fun e w' => e = .returned (.tuple #[.int .i64 (n / b), .int .i64 (n / b + 1)]) ∧ w = w' := by
  obtain ⟨h1, h2, h3, h4, h5⟩ := div_facts hn hb
  have h6 := div_lt hn hb (by simpa using h)
  clear h3
  go_enter Try.func82, Try.ntmps82
  go_wp2
  go_ret2
  exact ⟨rfl, rfl⟩

/-- The closure that tells what is wrong, made. -/
theorem wrongOf_any (n b : Int) (w : World) :
    Calls Try.prog 81 #[.int .i64 n, .int .i64 b] w fun e w' => e = .returned (.func (.func 96) #[] #[.pointer (some ⟨w.heap.size, 0, none⟩), .pointer (some ⟨w.heap.size + 1, 0, none⟩)]) ∧ w' = (w.alloc (.cells #[.int .i64 n] 3)).alloc (.cells #[.int .i64 b] 3) := by
  have hmf : ∀ (fn : Fn) (first cap : Array Value) (w : World), (Instr.makeFunc fn first cap).run Try.prog w = .ok (.func fn first cap) w := fun _ _ _ _ => rfl
  go_enter Try.func81, Try.ntmps81
  go_wp2
  go_ret
  exact ⟨rfl, rfl⟩
theorem fresh2 (w : World) (c d : Array Value) (t u : TypeId) : Fresh w ((w.alloc (.cells c t)).alloc (.cells d u)) := ((Fresh.refl w).alloc c t).alloc d u
end Go.Proofs.Ytfkegbipfekbdaa
/-
  Many of package unit, met by a contract: whatever two ints come in, it returns the plain number 'many', and lays at most new blocks.
-/
namespace Go.Proofs.Ytfkegbipfekbdaa
open Go.ChangeShapes Go.WideShapes Go.ChangeAt Go.RowKit

theorem many_wrong (n b : Int) (w : World) (h : n < 1 ∨ b < 1) :
    Calls Try.prog 97 #[.int .i64 n, .int .i64 b] w (F2 0 w) := by
  by_cases h1 : n < 1
  · clear h
    go_enter Try.func97, Try.ntmps97
    go_wp2_with fail
    refine (wrongOf_any n b w).mono ?_
    rintro e w' ⟨rfl, rfl⟩
    go_wp2
    go_ret
    exact ⟨rfl, fresh2 _ _ _ _ _⟩
  · have h2 : b < 1 := by omega
    clear h
    go_enter Try.func97, Try.ntmps97
    go_wp2_with fail
    refine (wrongOf_any n b w).mono ?_
    rintro e w' ⟨rfl, rfl⟩
    go_wp2
    go_ret
    exact ⟨rfl, fresh2 _ _ _ _ _⟩

theorem many_even_any (n b : Int) (w : World) (hn : 1 ≤ n) (hb : 1 ≤ b) (hm : n ≤ 9223372036854775807) (h : (n % b != 0) = false) :
    Calls Try.prog 97 #[.int .i64 n, .int .i64 b] w (F2 (n / b) w) := by
  go_enter Try.func97, Try.ntmps97
  go_wp2_with (first | (go_at_call 81; refine (wrongOf_any n b w).mono ?_; rintro e w' ⟨rfl, rfl⟩) | (go_at_call 96; go_in) | (go_at_call 82; refine (count_even n b _ hn hb hm h).mono ?_; rintro e w' ⟨rfl, rfl⟩))
  go_ret
  exact ⟨rfl, fresh2 _ _ _ _ _⟩

theorem many_odd_any (n b : Int) (w : World) (hn : 1 ≤ n) (hb : 1 ≤ b) (hm : n ≤ 9223372036854775807) (h : (n % b != 0) = true) :
    Calls Try.prog 97 #[.int .i64 n, .int .i64 b] w (F2 (n / b + 1) w) := by
  go_enter Try.func97, Try.ntmps97
  go_wp2_with (first | (go_at_call 81; refine (wrongOf_any n b w).mono ?_; rintro e w' ⟨rfl, rfl⟩) | (go_at_call 96; go_in) | (go_at_call 82; refine (count_odd n b _ hn hb hm h).mono ?_; rintro e w' ⟨rfl, rfl⟩))
  go_ret
  exact ⟨rfl, fresh2 _ _ _ _ _⟩

/-- MANY: whatever two ints come in. -/
theorem many_any (n b : Int) (w : World) (hm : n ≤ 9223372036854775807) :
    Calls Try.prog 97 #[.int .i64 n, .int .i64 b] w (F2 (many n b) w) := by
  by_cases h : n < 1 ∨ b < 1
  · rw [many_off h]; exact many_wrong n b w h
  · by_cases h0 : n % b = 0
    · rw [many_even (by omega) (by omega) h0]; exact many_even_any n b w (by omega) (by omega) hm (by simpa using h0)
    · rw [many_odd (by omega) (by omega) h0]; exact many_odd_any n b w (by omega) (by omega) hm (by simpa using h0)
end Go.Proofs.Ytfkegbipfekbdaa
/-
  Data and All of package chain, and the document's own Data, each met by a contract: the plain numbers 'many' and 'allOf', at most new blocks.
-/
namespace Go.Proofs.Ytfkegbipfekbdaa
open Go.ChangeShapes Go.WideShapes Go.ChangeAt Go.RowKit

theorem data_any (n b : Int) (w : World) (hm : n ≤ 9223372036854775807) :
    Calls Try.prog 84 #[.int .i64 n, .int .i64 b] w (F2 (many n b) w) := by
  go_enter Try.func84, Try.ntmps84
  go_wp2_with fail
  refine (many_any n b w hm).mono ?_
  rintro e w' ⟨rfl, f⟩
  go_wp2
  go_ret
  exact ⟨rfl, f⟩
theorem all_any (n b : Int) (w : World) (hm : n ≤ 9223372036854775807) :
    Calls Try.prog 58 #[.int .i64 n, .int .i64 b] w (F2 (allOf n b) w) := by
  have hq : 0 ≤ many n b ∧ many n b ≤ 9223372036854775807 := by
    by_cases h : n < 1 ∨ b < 1
    · rw [many_off h]; omega
    · have := many_facts (n := n) (b := b) (by omega) (by omega); omega
  unfold allOf
  have HD := Lib.hid (data_any n b w hm)
  generalize many n b = q at HD hq ⊢
  by_cases h0 : q = 0
  · rw [if_pos (.inl h0)]
    have e0 : (q == 0) = true := by simpa using h0
    have H0 := Lib.hid h0
    clear h0
    go_enter Try.func58, Try.ntmps58
    go_wp2_with fail
    refine HD.out.mono ?_
    rintro e w' ⟨rfl, f⟩
    go_wp2
    go_ret
    exact ⟨rfl, f⟩
  · have e0 : (q == 0) = false := by simpa using h0
    by_cases h1 : q = 9223372036854775807
    · rw [if_pos (.inr h1)]
      have e1 : (q == 9223372036854775807) = true := by simpa using h1
      clear h0 h1
      go_enter Try.func58, Try.ntmps58
      go_wp2_with fail
      refine HD.out.mono ?_
      rintro e w' ⟨rfl, f⟩
      go_wp2
      go_ret
      exact ⟨rfl, f⟩
    · rw [if_neg (by omega)]
      have e1 : (q == 9223372036854775807) = false := by simpa using h1
      have hlt : q < 9223372036854775807 := by omega
      clear h0 h1
      go_enter Try.func58, Try.ntmps58
      go_wp2_with fail
      refine HD.out.mono ?_
      rintro e w' ⟨rfl, f⟩
      go_wp2
      go_ret
      exact ⟨rfl, f⟩
end Go.Proofs.Ytfkegbipfekbdaa
