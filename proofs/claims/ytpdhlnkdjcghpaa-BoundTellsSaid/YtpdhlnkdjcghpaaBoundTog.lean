/-
  The sum of package bound (together), of whatever many ints, met by a contract: it tells all of them together, and leaves the memory alone; of ints that are written out, in a block of their own.
-/
import Derived.Test.YtpdhlnkdjcghpaaIntsLit
namespace Go.Proofs.Ytpdhlnkdjcghpaa
open Go.ChangeShapes Go.WideShapes Go.ChangeAt Go.RowKit

/-- The first k of them together. -/
def ahead18 (xs : List Int) (k : Nat) : Int := (xs.take k).sum
theorem ahead18_zero (xs : List Int) : ahead18 xs 0 = 0 := by simp [ahead18]
theorem ahead18_next {xs : List Int} {k : Nat} {s : Int} (h : xs[k]? = some s) : ahead18 xs (k + 1) = ahead18 xs k + s := by
  unfold ahead18
  rw [List.take_add_one, h]
  simp
theorem ahead18_all {xs : List Int} {n : Nat} (h : xs.length = n) : ahead18 xs n = xs.sum := by unfold ahead18; rw [← h, List.take_length]
/-- What is 0 or more, and less than so much each. -/
theorem ahead18_in {xs : List Int} (h : ∀ x ∈ xs, 0 ≤ x ∧ x ≤ 100000000000000) : ∀ k : Nat, 0 ≤ ahead18 xs k ∧ ahead18 xs k ≤ 100000000000000 * k
  | 0 => by rw [ahead18_zero]; omega
  | k + 1 => by
    have ih := ahead18_in h k
    cases hs : xs[k]? with
    | none =>
      have e : ahead18 xs (k + 1) = ahead18 xs k := by unfold ahead18; rw [List.take_add_one, hs]; simp
      rw [e]; omega
    | some s =>
      have := h s (List.mem_of_getElem? hs)
      rw [ahead18_next hs]; omega

theorem together_any (a : Option Addr) (n k0 : Nat) (xs : List Int) (B : Nat) (w : World) (hx : Ints w B a n xs) (hn : n ≤ 1000) (hp : ∀ x ∈ xs, 0 ≤ x ∧ x ≤ 100000000000000) :
    Calls Try.prog 20 #[.slice a n k0] w (R1 xs.sum w) := by
  have hmax := hx.max
  have hin := ahead18_in hp
  rw [← ahead18_all hx.len]
  clear hp
  go_enter Try.func20, Try.ntmps20
  go_wp2
  go_loop [3, 8] (fun t i => ∃ k : Nat, k ≤ n ∧ i = .int .i64 k ∧ t = .int .i64 (ahead18 xs k)) (fun _ i => n - (intOf i).toNat)
  case atStart => exact ⟨0, Nat.zero_le _, rfl, by rw [ahead18_zero]⟩
  case round =>
    obtain ⟨k, hk, rfl, rfl⟩ := hrel
    by_cases hlt : k < n
    · obtain ⟨s, hs, s1, s2⟩ := hx.at_ hlt
      obtain ⟨b, o, rfl, hb, hcl⟩ := hx.head (by omega)
      have hcell := hcl k s hs
      have b0 := hin k
      have b1 := hin (k + 1)
      rw [ahead18_next hs] at b1
      have HE := Lib.hid (ahead18_next hs)
      clear hcl hs hx hin
      generalize ahead18 xs k = t at *
      go_wp2
      go_round
      case rel => exact ⟨k + 1, by omega, by go_num, by rw [HE.out]⟩
      case measure => simp [intOf]; omega
    · obtain rfl : k = n := by omega
      go_wp2
      go_ret
      exact ⟨rfl, rfl⟩

/-- Of ints that are written out. -/
theorem together_lit (xs : List Int) (cs : Array Value) (t : TypeId) (n : Nat) (w : World) (hcs : cs = (xs.map (Value.int .i64)).toArray) (hn : xs.length = n) (hm : n ≤ 1000) (hp : ∀ x ∈ xs, 0 ≤ x ∧ x ≤ 100000000000000) :
    Calls Try.prog 20 #[.slice (some ⟨w.heap.size, 0, none⟩) n n] (w.alloc (.cells cs t)) (R1 xs.sum (w.alloc (.cells cs t))) := by
  subst hn
  exact together_any _ _ _ xs _ _ (ints_lit w xs cs t hcs hm (fun x hx => by have := hp x hx; omega)) hm hp
end Go.Proofs.Ytpdhlnkdjcghpaa
