/-
  The closure of package conf that tells a class's size, and Small, which asks it, each met by a contract.
-/
import Derived.Test.YtpdhlnkdjcghpaaConfWithin
import Derived.Laws.Pointers
namespace Go.Proofs.Ytpdhlnkdjcghpaa
open Go.ChangeShapes Go.WideShapes Go.ChangeAt Go.RowKit

theorem classesOf_any (c : Cf) (w : World) :
    Calls Try.prog 34 #[(.agg #[.int .i64 c.size, .int .i64 c.pages, .slice c.ca c.cn c.cc, .slice c.ka c.kn c.kc, .int .i64 c.step, .int .i64 c.slots, .int .i64 c.gens, .int .i64 c.most])] w
      fun e w' => e = .returned (.func (.func 37) #[] #[.pointer (some ⟨w.heap.size, 0, none⟩)]) ∧ w' = w.alloc (.cells #[.int .i64 c.size, .int .i64 c.pages, .slice c.ca c.cn c.cc, .slice c.ka c.kn c.kc, .int .i64 c.step, .int .i64 c.slots, .int .i64 c.gens, .int .i64 c.most] 24) := by
  have hmf : ∀ (fn : Fn) (first cap : Array Value) (w : World), (Instr.makeFunc fn first cap).run Try.prog w = .ok (.func fn first cap) w := fun _ _ _ _ => rfl
  go_enter Try.func34, Try.ntmps34
  go_wp2
  go_ret
  exact ⟨rfl, rfl⟩

/-- The closure: asked for class k, it tells its size, 0 where there is none. -/
theorem sizeAt_any (k : Int) (g : Nat) (a : Option Addr) (n c : Nat) (xs : List Int) (B : Nat) (w : World) (hg : w.cell? ⟨g, 2, none⟩ = some (.slice a n c)) (h : Ints w B a n xs) (hk : Fit k) :
    Calls Try.prog 37 #[.int .i64 k, .pointer (some ⟨g, 0, none⟩)] w (R1 (sizeAt xs k) w) := by
  have hmax := h.max
  have hlen := h.len
  obtain ⟨k1, k2⟩ := hk
  have HW := within_any k 0 ((n : Int) - 1) w
  by_cases h0 : 0 ≤ k ∧ k < n
  · obtain ⟨k', rfl⟩ := Int.eq_ofNat_of_zero_le h0.1
    have hkn : k' < n := by omega
    obtain ⟨s, hs, s1, s2⟩ := h.at_ hkn
    obtain ⟨b, o, rfl, hb, hc⟩ := h.head (by omega)
    have hcell := hc k' s hs
    rw [sizeAt_at hs]
    rw [inB_true.2 ⟨by omega, by omega⟩] at HW
    have H := Lib.hid HW
    have hkn' : (k' : Int) < (n : Int) := by omega
    clear HW hs hc hlen h0
    go_enter Try.func37, Try.ntmps37
    go_wp2_with fail
    refine H.out.mono ?_
    rintro e w' ⟨rfl, rfl⟩
    go_wp2
    go_ret
    exact ⟨rfl, rfl⟩
  · have e : sizeAt xs k = 0 := by
      by_cases c : k < 0
      · exact sizeAt_neg c
      · exact sizeAt_far (by omega)
    have e2 : inB k 0 ((n : Int) - 1) = false := by
      by_cases c : k < 0
      · exact inB_low c
      · exact inB_high (by omega)
    rw [e]
    rw [e2] at HW
    have H := Lib.hid HW
    clear HW hlen h0 e e2
    go_enter Try.func37, Try.ntmps37
    go_wp2_with fail
    refine H.out.mono ?_
    rintro e w' ⟨rfl, rfl⟩
    go_wp2
    go_ret
    exact ⟨rfl, rfl⟩

theorem small_any (c : Cf) (w : World) (hc : c.Ok w w.heap.size) :
    Calls Try.prog 27 #[(.agg #[.int .i64 c.size, .int .i64 c.pages, .slice c.ca c.cn c.cc, .slice c.ka c.kn c.kc, .int .i64 c.step, .int .i64 c.slots, .int .i64 c.gens, .int .i64 c.most])] w (IB (small c) w) := by
  have hlen := hc.classes.len
  have hmax := hc.classes.max
  have HI := hc.classes
  unfold small
  rw [hlen]
  clear hlen
  go_enter Try.func27, Try.ntmps27
  go_wp2_with fail
  refine (classesOf_any c _).mono ?_
  rintro e w' ⟨rfl, rfl⟩
  go_wp2_with fail
  refine (sizeAt_any ((c.cn : Int) - 1) (w.heap.size + 1) c.ca c.cn c.cc c.xs w.heap.size _ (by simp) ((HI.alloc (Nat.le_refl _) _).alloc (by simp) _) ⟨by omega, by omega⟩).mono ?_
  rintro e w' ⟨rfl, rfl⟩
  go_wp2
  go_ret
  exact ⟨rfl, below2 _ _ _⟩
end Go.Proofs.Ytpdhlnkdjcghpaa
