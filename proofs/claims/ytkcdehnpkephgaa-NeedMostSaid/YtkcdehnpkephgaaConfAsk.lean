/-
  The closure of package conf that tells a class's size, and what asks it (Blocks, Small), each met by a contract.
-/
import Derived.Test.YtkcdehnpkephgaaConfWithin
import Derived.Test.YtkcdehnpkephgaaUnitWhole
import Derived.Deep.RegionHeld3
import Derived.Laws.Pointers
namespace Go.Proofs.Ytkcdehnpkephgaa
open Go.ChangeShapes Go.WideShapes Go.ChangeAt Go.RowKit

theorem classesOf_any (c : Cf) (w : World) :
    Calls Try.prog 38 #[(.agg #[.int .i64 c.size, .int .i64 c.pages, .slice c.ca c.cn c.cc, .slice c.ka c.kn c.kc, .int .i64 c.step, .int .i64 c.slots, .int .i64 c.gens, .int .i64 c.most])] w
      fun e w' => e = .returned (.func (.func 44) #[] #[.pointer (some ⟨w.heap.size, 0, none⟩)]) ∧ w' = w.alloc (.cells #[.int .i64 c.size, .int .i64 c.pages, .slice c.ca c.cn c.cc, .slice c.ka c.kn c.kc, .int .i64 c.step, .int .i64 c.slots, .int .i64 c.gens, .int .i64 c.most] 24) := by
  have hmf : ∀ (fn : Fn) (first cap : Array Value) (w : World), (Instr.makeFunc fn first cap).run Try.prog w = .ok (.func fn first cap) w := fun _ _ _ _ => rfl
  go_enter Try.func38, Try.ntmps38
  go_wp2
  go_ret
  exact ⟨rfl, rfl⟩

/-- The closure: asked for class k, it tells its size, 0 where there is none. -/
theorem sizeAt_any (k : Int) (g : Nat) (a : Option Addr) (n c : Nat) (xs : List Int) (B : Nat) (w : World) (hg : w.cell? ⟨g, 2, none⟩ = some (.slice a n c)) (h : Ints w B a n xs) (hk : Fit k) :
    Calls Try.prog 44 #[.int .i64 k, .pointer (some ⟨g, 0, none⟩)] w (R1 (sizeAt xs k) w) := by
  have hmax := h.max
  have hlen := h.len
  obtain ⟨k1, k2⟩ := hk
  have HW := within_any k 0 ((n : Int) - 1) w
  by_cases h0 : 0 ≤ k ∧ k < n
  · obtain ⟨k', rfl⟩ := Int.eq_ofNat_of_zero_le h0.1
    have hkn : k' < n := by omega
    obtain ⟨s, hs, s1, s2⟩ := h.at_ hkn
    obtain ⟨b, o, rfl, hb, hc⟩ := h.head (by omega)
    have hcell := hc k' s hs
    rw [sizeAt_at hs]
    rw [inB_true.2 ⟨by omega, by omega⟩] at HW
    have H := Lib.hid HW
    have hkn' : (k' : Int) < (n : Int) := by omega
    clear HW hs hc hlen h0
    go_enter Try.func44, Try.ntmps44
    go_wp2_with fail
    refine H.out.mono ?_
    rintro e w' ⟨rfl, rfl⟩
    go_wp2
    go_ret
    exact ⟨rfl, rfl⟩
  · have e : sizeAt xs k = 0 := by
      by_cases c : k < 0
      · exact sizeAt_neg c
      · exact sizeAt_far (by omega)
    have e2 : inB k 0 ((n : Int) - 1) = false := by
      by_cases c : k < 0
      · exact inB_low c
      · exact inB_high (by omega)
    rw [e]
    rw [e2] at HW
    have H := Lib.hid HW
    clear HW hlen h0 e e2
    go_enter Try.func44, Try.ntmps44
    go_wp2_with fail
    refine H.out.mono ?_
    rintro e w' ⟨rfl, rfl⟩
    go_wp2
    go_ret
    exact ⟨rfl, rfl⟩

theorem small_any (c : Cf) (w : World) (hc : c.Ok w w.heap.size) :
    Calls Try.prog 23 #[(.agg #[.int .i64 c.size, .int .i64 c.pages, .slice c.ca c.cn c.cc, .slice c.ka c.kn c.kc, .int .i64 c.step, .int .i64 c.slots, .int .i64 c.gens, .int .i64 c.most])] w (IB (small c) w) := by
  have hlen := hc.classes.len
  have hmax := hc.classes.max
  have HI := hc.classes
  unfold small
  rw [hlen]
  clear hlen
  go_enter Try.func23, Try.ntmps23
  go_wp2_with fail
  refine (classesOf_any c _).mono ?_
  rintro e w' ⟨rfl, rfl⟩
  go_wp2_with fail
  refine (sizeAt_any ((c.cn : Int) - 1) (w.heap.size + 1) c.ca c.cn c.cc c.xs w.heap.size _ (by simp) ((HI.alloc (Nat.le_refl _) _).alloc (by simp) _) ⟨by omega, by omega⟩).mono ?_
  rintro e w' ⟨rfl, rfl⟩
  go_wp2
  go_ret
  exact ⟨rfl, below2 _ _ _⟩

theorem blocks_any (c : Cf) (k : Int) (w : World) (hc : c.Ok w w.heap.size) (hk : Fit k) :
    Calls Try.prog 28 #[(.agg #[.int .i64 c.size, .int .i64 c.pages, .slice c.ca c.cn c.cc, .slice c.ka c.kn c.kc, .int .i64 c.step, .int .i64 c.slots, .int .i64 c.gens, .int .i64 c.most]), .int .i64 k] w (IB (blocks c k) w) := by
  have HI := hc.classes
  obtain ⟨z1, z2⟩ := hc.size
  unfold blocks
  go_enter Try.func28, Try.ntmps28
  go_wp2_with fail
  refine (classesOf_any c _).mono ?_
  rintro e w' ⟨rfl, rfl⟩
  go_wp2_with fail
  go_region_held3 (fun w' => w'.cell? ⟨w.heap.size, 0, none⟩ = some (.int .i64 c.size))
    (first
      | go_keep
      | exact (f1.below.cell (p := ⟨w.heap.size, 0, none⟩) (by simp <;> omega)).trans (by simp))
    (first
      | (go_at_call 44; refine (sizeAt_any k (w.heap.size + 1) c.ca c.cn c.cc c.xs w.heap.size _ (by simp) (by exact ((HI.alloc (Nat.le_refl _) _).alloc (by simp) _).drew) hk).mono ?_; rintro e w' ⟨rfl, rfl⟩)
      | (go_at_call 42; refine (whole_any c.size (sizeAt c.xs k) _ z2).mono ?_; rintro e w1 ⟨rfl, f1⟩))
  go_wp2
  go_ret
  exact ⟨rfl, belowT (belowD (below2 _ _ _)) f1.below⟩
end Go.Proofs.Ytkcdehnpkephgaa
