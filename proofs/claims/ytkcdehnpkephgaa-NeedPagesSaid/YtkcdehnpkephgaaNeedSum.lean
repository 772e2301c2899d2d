/-
  The generic sum of package need, over ints, met by a contract: of whatever closure that tells a number of each place, all memory that was there left as it was, it tells all numbers together.
-/
import Derived.Test.YtkcdehnpkephgaaNeedNum
import Derived.Test.YtkcdehnpkephgaaInts
import Derived.Test.YtkcdehnpkephgaaBut
namespace Go.Proofs.Ytkcdehnpkephgaa
open Go.ChangeShapes Go.WideShapes Go.ChangeAt Go.RowKit

/-- The closure tells f of place k, whatever was made meanwhile. -/
def TellsAt (fid : Nat) (caps : Array Value) (f : Nat → Int) (xs : List Int) (w : World) : Prop :=
  ∀ (k : Nat) (x : Int) (v : World), xs[k]? = some x → Below w.heap.size w v → Calls Try.prog fid (#[.int .i64 (k : Int), .int .i64 x] ++ caps) v (IB (f k) v)

set_option maxHeartbeats 1000000 in
theorem sumInt_any (fid : Nat) (caps : Array Value) (f : Nat → Int) (hcf : ∀ (ys : Array Value) (v : World), (callFunc fid ys).run Try.prog v = .ok (.enter fid ys) v) (a : Option Addr) (n k0 : Nat) (xs : List Int) (M : Int) (w : World) (hx : Ints w w.heap.size a n xs) (hf : TellsAt fid caps f xs w) (h1 : ∀ k, k ≤ n → 0 ≤ sumTo f k ∧ sumTo f k ≤ M) (hM : M ≤ 9223372036854775807) :
    Calls Try.prog 24 #[.slice a n k0, .func (.func fid) #[] caps] w (IB (sumTo f n) w) := by
  have hmax := hx.max
  go_enter Try.func24, Try.ntmps24
  go_wp2
  go_loopw [5, 10] (fun t i wr => ∃ k : Nat, k ≤ n ∧ i = .int .i64 k ∧ t = .int .i64 (sumTo f k) ∧ Below w.heap.size w wr) (fun _ i _ => n - (intOf i).toNat)
  case atStart => exact ⟨0, Nat.zero_le _, rfl, rfl, Below.refl _ _⟩
  case round =>
    obtain ⟨k, hk, rfl, rfl, bw⟩ := hrel
    by_cases hlt : k < n
    · have Xw := hx.below bw
      obtain ⟨s, hs, s1, s2⟩ := Xw.at_ hlt
      obtain ⟨b, o, rfl, hb, hcl⟩ := Xw.head (by omega)
      have hcell := hcl k s hs
      have HF := hf k s wr hs bw
      have e : sumTo f (k + 1) = sumTo f k + f k := rfl
      have b0 := h1 k (by omega)
      have b1 := h1 (k + 1) (by omega)
      rw [e] at b1
      have HE := Lib.hid e
      clear hcl hs Xw e
      have H := Lib.hid HF
      clear HF
      generalize f k = y at *
      generalize sumTo f k = t at *
      go_wp2_with fail
      refine H.out.mono ?_
      rintro e w6 ⟨rfl, f6⟩
      go_wp2
      go_roundw
      case rel => exact ⟨k + 1, by omega, by go_num, by rw [HE.out], bw.trans (f6.mono bw.size)⟩
      case measure => simp [intOf]; omega
    · obtain rfl : k = n := by omega
      go_wp2
      go_ret
      exact ⟨rfl, bw⟩
end Go.Proofs.Ytkcdehnpkephgaa
