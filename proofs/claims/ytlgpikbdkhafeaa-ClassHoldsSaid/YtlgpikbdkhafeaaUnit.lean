/-
  Many and Whole of package unit, each met by a contract: whatever two ints come in, they return the plain numbers 'many', 'whole' below, and lay at most new blocks behind the memory that was there. No condition but that both are ints of 64 bits.
-/
import Derived.Test.YtlgpikbdkhafeaaRows
import Derived.WalkKit
import Derived.ProofKit
import Derived.OpenShut
namespace Go.Proofs.Ytlgpikbdkhafeaa
open Go.ChangeShapes Go.WideShapes Go.ChangeAt Go.RowKit

/-! ### The plain numbers -/
def many (n b : Int) : Int := if n < 1 ∨ b < 1 then 0 else if n % b = 0 then n / b else n / b + 1
def whole (n b : Int) : Int := if n < 1 ∨ b < 1 then 0 else n / b
def upTo (n b : Int) : Int := if many n b * b ≤ 9223372036854775807 then many n b * b else 0
def spare (n b : Int) : Int := if upTo n b = 0 then 0 else upTo n b - n

theorem many_off {n b : Int} (h : n < 1 ∨ b < 1) : many n b = 0 := if_pos h
theorem whole_off {n b : Int} (h : n < 1 ∨ b < 1) : whole n b = 0 := if_pos h
theorem whole_on {n b : Int} (hn : 1 ≤ n) (hb : 1 ≤ b) : whole n b = n / b := if_neg (by omega)
theorem many_even {n b : Int} (hn : 1 ≤ n) (hb : 1 ≤ b) (h : n % b = 0) : many n b = n / b := by
  unfold many; rw [if_neg (by omega), if_pos h]
theorem many_odd {n b : Int} (hn : 1 ≤ n) (hb : 1 ≤ b) (h : ¬ n % b = 0) : many n b = n / b + 1 := by
  unfold many; rw [if_neg (by omega), if_neg h]
theorem upTo_off {n b : Int} (h : n < 1 ∨ b < 1) : upTo n b = 0 := by unfold upTo; rw [many_off h]; simp
theorem spare_off {n b : Int} (h : n < 1 ∨ b < 1) : spare n b = 0 := if_pos (upTo_off h)

/-- A quotient times its divisor, and the rest. -/
theorem div_facts {n b : Int} (hn : 1 ≤ n) (hb : 1 ≤ b) : 0 ≤ n / b ∧ n / b ≤ n ∧ n / b * b + n % b = n ∧ 0 ≤ n % b ∧ n % b < b := by
  have h1 := Int.emod_nonneg n (show b ≠ 0 by omega)
  have h2 := Int.emod_lt_of_pos n (show 0 < b by omega)
  have h3 := Int.ediv_mul_add_emod n b
  have h4 := Int.ediv_nonneg (show 0 ≤ n by omega) (show 0 ≤ b by omega)
  have h5 := Int.ediv_le_self b (show 0 ≤ n by omega)
  exact ⟨h4, h5, h3, h1, h2⟩

/-- Where a rest is left the quotient is below the number: one more is an int still. -/
theorem div_lt {n b : Int} (hn : 1 ≤ n) (hb : 1 ≤ b) (h : ¬ n % b = 0) : n / b + 1 ≤ n := by
  obtain ⟨h1, h2, h3, h4, h5⟩ := div_facts hn hb
  have h6 : n / b * 1 ≤ n / b * b := Int.mul_le_mul_of_nonneg_left hb h1
  omega

theorem many_facts {n b : Int} (hn : 1 ≤ n) (hb : 1 ≤ b) : 1 ≤ many n b ∧ many n b ≤ n ∧ n ≤ many n b * b ∧ many n b * b < n + b := by
  obtain ⟨h1, h2, h3, h4, h5⟩ := div_facts hn hb
  by_cases h0 : n % b = 0
  · rw [many_even hn hb h0]
    have : n / b ≠ 0 := fun e => by rw [e] at h3; omega
    omega
  · rw [many_odd hn hb h0]
    have h6 := div_lt hn hb h0
    rw [Int.add_mul, Int.one_mul]
    omega

/-! ### What a call leaves of the memory -/
structure Fresh (w w' : World) : Prop where
  below : Below w.heap.size w w'
  grown : Grown w w'

theorem Fresh.refl (w : World) : Fresh w w := ⟨Below.refl _ _, Grown.refl _⟩
theorem Fresh.trans {a b c : World} (h : Fresh a b) (k : Fresh b c) : Fresh a c :=
  ⟨h.below.trans (k.below.mono h.below.size), ⟨World.keptBut_trans h.grown.1 (World.keptBut_mono (fun _ f => f.elim) k.grown.1), fun x => (k.grown.2.1 x).trans (h.grown.2.1 x), Nat.le_trans h.grown.2.2 k.grown.2.2⟩⟩
theorem Fresh.alloc {a b : World} (h : Fresh a b) (c : Array Value) (t : TypeId) : Fresh a (b.alloc (.cells c t)) :=
  ⟨h.below.alloc h.below.size _, h.grown.alloc c t⟩

/-! ### The callees -/
theorem count_even (n b : Int) (w : World) (hn : 1 ≤ n) (hb : 1 ≤ b) (hm : n ≤ 9223372036854775807) (h : (n % b != 0) = false) :
    Calls Try.prog 25 #[.int .i64 n, .int .i64 b] w fun e w' => e = .returned (.tuple #[.int .i64 (n / b), .int .i64 (n / b)]) ∧ w = w' := by
  obtain ⟨h1, h2, h3, h4, h5⟩ := div_facts hn hb
  clear h3
  go_enter Try.func25, Try.ntmps25
  go_wp2
  go_ret2
  exact ⟨rfl, rfl⟩

theorem count_odd (n b : Int) (w : World) (hn : 1 ≤ n) (hb : 1 ≤ b) (hm : n ≤ 9223372036854775807) (h : (n % b != 0) = true) :
    Calls Try.prog 25 #[.int .i64 n, .int .i64 b] w fun e w' => e = .returned (.tuple #[.int .i64 (n / b), .int .i64 (n / b + 1)]) ∧ w = w' := by
  obtain ⟨h1, h2, h3, h4, h5⟩ := div_facts hn hb
  have h6 := div_lt hn hb (by simpa using h)
  clear h3
  go_enter Try.func25, Try.ntmps25
  go_wp2
  go_ret2
  exact ⟨rfl, rfl⟩

/-- The closure that tells what is wrong, made. -/
theorem wrongOf_any (n b : Int) (w : World) :
    Calls Try.prog 24 #[.int .i64 n, .int .i64 b] w fun e w' => e = .returned (.func (.func 26) #[] #[.pointer (some ⟨w.heap.size, 0, none⟩), .pointer (some ⟨w.heap.size + 1, 0, none⟩)]) ∧ w' = (w.alloc (.cells #[.int .i64 n] 3)).alloc (.cells #[.int .i64 b] 3) := by
  have hmf : ∀ (fn : Fn) (first cap : Array Value) (w : World), (Instr.makeFunc fn first cap).run Try.prog w = .ok (.func fn first cap) w := fun _ _ _ _ => rfl
  go_enter Try.func24, Try.ntmps24
  go_wp2
  go_ret
  exact ⟨rfl, rfl⟩

def F2 (P : Int) (w : World) (e : Ending) (w' : World) : Prop := e = .returned (.int .i64 P) ∧ Fresh w w'
theorem fresh2 (w : World) (c d : Array Value) (t u : TypeId) : Fresh w ((w.alloc (.cells c t)).alloc (.cells d u)) := ((Fresh.refl w).alloc c t).alloc d u

/-! ### Many, Whole: by ints -/
theorem many_wrong (n b : Int) (w : World) (h : n < 1 ∨ b < 1) :
    Calls Try.prog 22 #[.int .i64 n, .int .i64 b] w (F2 0 w) := by
  by_cases h1 : n < 1
  · clear h
    go_enter Try.func22, Try.ntmps22
    go_wp2_with fail
    refine (wrongOf_any n b w).mono ?_
    rintro e w' ⟨rfl, rfl⟩
    go_wp2
    go_ret
    exact ⟨rfl, fresh2 _ _ _ _ _⟩
  · have h2 : b < 1 := by omega
    clear h
    go_enter Try.func22, Try.ntmps22
    go_wp2_with fail
    refine (wrongOf_any n b w).mono ?_
    rintro e w' ⟨rfl, rfl⟩
    go_wp2
    go_ret
    exact ⟨rfl, fresh2 _ _ _ _ _⟩

theorem many_even_any (n b : Int) (w : World) (hn : 1 ≤ n) (hb : 1 ≤ b) (hm : n ≤ 9223372036854775807) (h : (n % b != 0) = false) :
    Calls Try.prog 22 #[.int .i64 n, .int .i64 b] w (F2 (n / b) w) := by
  go_enter Try.func22, Try.ntmps22
  go_wp2_with (first | (go_at_call 24; refine (wrongOf_any n b w).mono ?_; rintro e w' ⟨rfl, rfl⟩) | (go_at_call 26; go_in) | (go_at_call 25; refine (count_even n b _ hn hb hm h).mono ?_; rintro e w' ⟨rfl, rfl⟩))
  go_ret
  exact ⟨rfl, fresh2 _ _ _ _ _⟩

theorem many_odd_any (n b : Int) (w : World) (hn : 1 ≤ n) (hb : 1 ≤ b) (hm : n ≤ 9223372036854775807) (h : (n % b != 0) = true) :
    Calls Try.prog 22 #[.int .i64 n, .int .i64 b] w (F2 (n / b + 1) w) := by
  go_enter Try.func22, Try.ntmps22
  go_wp2_with (first | (go_at_call 24; refine (wrongOf_any n b w).mono ?_; rintro e w' ⟨rfl, rfl⟩) | (go_at_call 26; go_in) | (go_at_call 25; refine (count_odd n b _ hn hb hm h).mono ?_; rintro e w' ⟨rfl, rfl⟩))
  go_ret
  exact ⟨rfl, fresh2 _ _ _ _ _⟩

/-- MANY: whatever two ints come in. -/
theorem many_any (n b : Int) (w : World) (hm : n ≤ 9223372036854775807) :
    Calls Try.prog 22 #[.int .i64 n, .int .i64 b] w (F2 (many n b) w) := by
  by_cases h : n < 1 ∨ b < 1
  · rw [many_off h]; exact many_wrong n b w h
  · by_cases h0 : n % b = 0
    · rw [many_even (by omega) (by omega) h0]; exact many_even_any n b w (by omega) (by omega) hm (by simpa using h0)
    · rw [many_odd (by omega) (by omega) h0]; exact many_odd_any n b w (by omega) (by omega) hm (by simpa using h0)

theorem whole_wrong (n b : Int) (w : World) (h : n < 1 ∨ b < 1) :
    Calls Try.prog 20 #[.int .i64 n, .int .i64 b] w (F2 0 w) := by
  by_cases h1 : n < 1
  · clear h
    go_enter Try.func20, Try.ntmps20
    go_wp2_with fail
    refine (wrongOf_any n b w).mono ?_
    rintro e w' ⟨rfl, rfl⟩
    go_wp2
    go_ret
    exact ⟨rfl, fresh2 _ _ _ _ _⟩
  · have h2 : b < 1 := by omega
    clear h
    go_enter Try.func20, Try.ntmps20
    go_wp2_with fail
    refine (wrongOf_any n b w).mono ?_
    rintro e w' ⟨rfl, rfl⟩
    go_wp2
    go_ret
    exact ⟨rfl, fresh2 _ _ _ _ _⟩

theorem whole_even_any (n b : Int) (w : World) (hn : 1 ≤ n) (hb : 1 ≤ b) (hm : n ≤ 9223372036854775807) (h : (n % b != 0) = false) :
    Calls Try.prog 20 #[.int .i64 n, .int .i64 b] w (F2 (n / b) w) := by
  go_enter Try.func20, Try.ntmps20
  go_wp2_with (first | (go_at_call 24; refine (wrongOf_any n b w).mono ?_; rintro e w' ⟨rfl, rfl⟩) | (go_at_call 26; go_in) | (go_at_call 25; refine (count_even n b _ hn hb hm h).mono ?_; rintro e w' ⟨rfl, rfl⟩))
  go_ret
  exact ⟨rfl, fresh2 _ _ _ _ _⟩

theorem whole_odd_any (n b : Int) (w : World) (hn : 1 ≤ n) (hb : 1 ≤ b) (hm : n ≤ 9223372036854775807) (h : (n % b != 0) = true) :
    Calls Try.prog 20 #[.int .i64 n, .int .i64 b] w (F2 (n / b) w) := by
  go_enter Try.func20, Try.ntmps20
  go_wp2_with (first | (go_at_call 24; refine (wrongOf_any n b w).mono ?_; rintro e w' ⟨rfl, rfl⟩) | (go_at_call 26; go_in) | (go_at_call 25; refine (count_odd n b _ hn hb hm h).mono ?_; rintro e w' ⟨rfl, rfl⟩))
  go_ret
  exact ⟨rfl, fresh2 _ _ _ _ _⟩

/-- WHOLE: whatever two ints come in. -/
theorem whole_any (n b : Int) (w : World) (hm : n ≤ 9223372036854775807) :
    Calls Try.prog 20 #[.int .i64 n, .int .i64 b] w (F2 (whole n b) w) := by
  by_cases h : n < 1 ∨ b < 1
  · rw [whole_off h]; exact whole_wrong n b w h
  · rw [whole_on (by omega) (by omega)]
    by_cases h0 : n % b = 0
    · exact whole_even_any n b w (by omega) (by omega) hm (by simpa using h0)
    · exact whole_odd_any n b w (by omega) (by omega) hm (by simpa using h0)
end Go.Proofs.Ytlgpikbdkhafeaa
