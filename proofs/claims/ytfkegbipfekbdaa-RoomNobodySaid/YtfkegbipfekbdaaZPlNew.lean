import Derived.Test.YtfkegbipfekbdaaZClassMay
import Derived.Laws.Pointers
import Derived.Test.YtfkegbipfekbdaaZChainAsk
import Derived.Deep.RegionHeld3
import Derived.Test.YtfkegbipfekbdaaZChainNum
import Derived.Test.YtfkegbipfekbdaaZPlGive
import Derived.OwnWalk
import Derived.Laws.OwnMore
/-
  The closure of package conf that tells a class's size, met by a contract.
-/
namespace Go.Proofs.Ytfkegbipfekbdaa
open Go.ChangeShapes Go.WideShapes Go.ChangeAt Go.RowKit

theorem classesOf_any (c : Cf) (w : World) :
    Calls Try.prog 55 #[(.agg #[.int .i64 c.size, .int .i64 c.pages, .slice c.ca c.cn c.cc, .slice c.ka c.kn c.kc, .int .i64 c.step, .int .i64 c.slots, .int .i64 c.gens, .int .i64 c.most])] w
      fun e w' => e = .returned (.func (.func 80) #[] #[.pointer (some ⟨w.heap.size, 0, none⟩)]) ∧ w' = w.alloc (.cells #[.int .i64 c.size, .int .i64 c.pages, .slice c.ca c.cn c.cc, .slice c.ka c.kn c.kc, .int .i64 c.step, .int .i64 c.slots, .int .i64 c.gens, .int .i64 c.most] 24) := by
  have hmf : ∀ (fn : Fn) (first cap : Array Value) (w : World), (Instr.makeFunc fn first cap).run Try.prog w = .ok (.func fn first cap) w := fun _ _ _ _ => rfl
  go_enter Try.func55, Try.ntmps55
  go_wp2
  go_ret
  exact ⟨rfl, rfl⟩

/-- The closure: asked for class k, it tells its size, 0 where there is none. -/
theorem sizeAt_any (k : Int) (g : Nat) (a : Option Addr) (n c : Nat) (xs : List Int) (B : Nat) (w : World) (hg : w.cell? ⟨g, 2, none⟩ = some (.slice a n c)) (h : Ints w B a n xs) (hk : Fit k) :
    Calls Try.prog 80 #[.int .i64 k, .pointer (some ⟨g, 0, none⟩)] w (R1 (sizeAt xs k) w) := by
  have hmax := h.max
  have hlen := h.len
  obtain ⟨k1, k2⟩ := hk
  have HW := within_any k 0 ((n : Int) - 1) w
  by_cases h0 : 0 ≤ k ∧ k < n
  · obtain ⟨k', rfl⟩ := Int.eq_ofNat_of_zero_le h0.1
    have hkn : k' < n := by omega
    obtain ⟨s, hs, s1, s2⟩ := h.at_ hkn
    obtain ⟨b, o, rfl, hb, hc⟩ := h.head (by omega)
    have hcell := hc k' s hs
    rw [sizeAt_at hs]
    rw [inB_true.2 ⟨by omega, by omega⟩] at HW
    have H := Lib.hid HW
    have hkn' : (k' : Int) < (n : Int) := by omega
    clear HW hs hc hlen h0
    go_enter Try.func80, Try.ntmps80
    go_wp2_with fail
    refine H.out.mono ?_
    rintro e w' ⟨rfl, rfl⟩
    go_wp2
    go_ret
    exact ⟨rfl, rfl⟩
  · have e : sizeAt xs k = 0 := by
      by_cases c : k < 0
      · exact sizeAt_neg c
      · exact sizeAt_far (by omega)
    have e2 : inB k 0 ((n : Int) - 1) = false := by
      by_cases c : k < 0
      · exact inB_low c
      · exact inB_high (by omega)
    rw [e]
    rw [e2] at HW
    have H := Lib.hid HW
    clear HW hlen h0 e e2
    go_enter Try.func80, Try.ntmps80
    go_wp2_with fail
    refine H.out.mono ?_
    rintro e w' ⟨rfl, rfl⟩
    go_wp2
    go_ret
    exact ⟨rfl, rfl⟩
end Go.Proofs.Ytfkegbipfekbdaa
/-
  Whole of package unit, met by a contract: whatever two ints come in, it returns the plain number 'whole', and lays at most new blocks.
-/
namespace Go.Proofs.Ytfkegbipfekbdaa
open Go.ChangeShapes Go.WideShapes Go.ChangeAt Go.RowKit

theorem whole_wrong (n b : Int) (w : World) (h : n < 1 ∨ b < 1) :
    Calls Try.prog 56 #[.int .i64 n, .int .i64 b] w (F2 0 w) := by
  by_cases h1 : n < 1
  · clear h
    go_enter Try.func56, Try.ntmps56
    go_wp2_with fail
    refine (wrongOf_any n b w).mono ?_
    rintro e w' ⟨rfl, rfl⟩
    go_wp2
    go_ret
    exact ⟨rfl, fresh2 _ _ _ _ _⟩
  · have h2 : b < 1 := by omega
    clear h
    go_enter Try.func56, Try.ntmps56
    go_wp2_with fail
    refine (wrongOf_any n b w).mono ?_
    rintro e w' ⟨rfl, rfl⟩
    go_wp2
    go_ret
    exact ⟨rfl, fresh2 _ _ _ _ _⟩

theorem whole_even_any (n b : Int) (w : World) (hn : 1 ≤ n) (hb : 1 ≤ b) (hm : n ≤ 9223372036854775807) (h : (n % b != 0) = false) :
    Calls Try.prog 56 #[.int .i64 n, .int .i64 b] w (F2 (n / b) w) := by
  go_enter Try.func56, Try.ntmps56
  go_wp2_with (first | (go_at_call 81; refine (wrongOf_any n b w).mono ?_; rintro e w' ⟨rfl, rfl⟩) | (go_at_call 96; go_in) | (go_at_call 82; refine (count_even n b _ hn hb hm h).mono ?_; rintro e w' ⟨rfl, rfl⟩))
  go_ret
  exact ⟨rfl, fresh2 _ _ _ _ _⟩

theorem whole_odd_any (n b : Int) (w : World) (hn : 1 ≤ n) (hb : 1 ≤ b) (hm : n ≤ 9223372036854775807) (h : (n % b != 0) = true) :
    Calls Try.prog 56 #[.int .i64 n, .int .i64 b] w (F2 (n / b) w) := by
  go_enter Try.func56, Try.ntmps56
  go_wp2_with (first | (go_at_call 81; refine (wrongOf_any n b w).mono ?_; rintro e w' ⟨rfl, rfl⟩) | (go_at_call 96; go_in) | (go_at_call 82; refine (count_odd n b _ hn hb hm h).mono ?_; rintro e w' ⟨rfl, rfl⟩))
  go_ret
  exact ⟨rfl, fresh2 _ _ _ _ _⟩

/-- WHOLE: whatever two ints come in. -/
theorem whole_any (n b : Int) (w : World) (hm : n ≤ 9223372036854775807) :
    Calls Try.prog 56 #[.int .i64 n, .int .i64 b] w (F2 (whole n b) w) := by
  by_cases h : n < 1 ∨ b < 1
  · rw [whole_off h]; exact whole_wrong n b w h
  · rw [whole_on (by omega) (by omega)]
    by_cases h0 : n % b = 0
    · exact whole_even_any n b w (by omega) (by omega) hm (by simpa using h0)
    · exact whole_odd_any n b w (by omega) (by omega) hm (by simpa using h0)
end Go.Proofs.Ytfkegbipfekbdaa
/-
  Blocks of package conf, met by a contract (the closure that it asks lies in ConfClasses).
-/
namespace Go.Proofs.Ytfkegbipfekbdaa
open Go.ChangeShapes Go.WideShapes Go.ChangeAt Go.RowKit

theorem blocks_any (c : Cf) (k : Int) (w : World) (hc : c.Ok w w.heap.size) (hk : Fit k) :
    Calls Try.prog 25 #[(.agg #[.int .i64 c.size, .int .i64 c.pages, .slice c.ca c.cn c.cc, .slice c.ka c.kn c.kc, .int .i64 c.step, .int .i64 c.slots, .int .i64 c.gens, .int .i64 c.most]), .int .i64 k] w (IB (blocks c k) w) := by
  have HI := hc.classes
  obtain ⟨z1, z2⟩ := hc.size
  unfold blocks
  go_enter Try.func25, Try.ntmps25
  go_wp2_with fail
  refine (classesOf_any c _).mono ?_
  rintro e w' ⟨rfl, rfl⟩
  go_wp2_with fail
  go_region_held3 (fun w' => w'.cell? ⟨w.heap.size, 0, none⟩ = some (.int .i64 c.size))
    (first
      | go_keep
      | exact (f1.below.cell (p := ⟨w.heap.size, 0, none⟩) (by simp <;> omega)).trans (by simp))
    (first
      | (go_at_call 80; refine (sizeAt_any k (w.heap.size + 1) c.ca c.cn c.cc c.xs w.heap.size _ (by simp) (by exact ((HI.alloc (Nat.le_refl _) _).alloc (by simp) _).drew) hk).mono ?_; rintro e w' ⟨rfl, rfl⟩)
      | (go_at_call 56; refine (whole_any c.size (sizeAt c.xs k) _ z2).mono ?_; rintro e w1 ⟨rfl, f1⟩))
  go_wp2
  go_ret
  exact ⟨rfl, belowT (belowD (below2 _ _ _)) f1.below⟩
end Go.Proofs.Ytfkegbipfekbdaa
/-
  A block that holds a layout's eight cells, and how it is kept; two ints in a block as a list. No statement about a Go function.
-/
namespace Go.Proofs.Ytfkegbipfekbdaa
open Go.ChangeShapes Go.WideShapes Go.ChangeAt Go.RowKit

/-- Block g holds the layout's eight cells. -/
structure Boxed (w : World) (g : Nat) (c : Cf) : Prop where
  c0 : w.cell? ⟨g, 0, none⟩ = some (.int .i64 c.size)
  c1 : w.cell? ⟨g, 1, none⟩ = some (.int .i64 c.pages)
  c2 : w.cell? ⟨g, 2, none⟩ = some (.slice c.ca c.cn c.cc)
  c3 : w.cell? ⟨g, 3, none⟩ = some (.slice c.ka c.kn c.kc)
  c4 : w.cell? ⟨g, 4, none⟩ = some (.int .i64 c.step)
  c5 : w.cell? ⟨g, 5, none⟩ = some (.int .i64 c.slots)
  c6 : w.cell? ⟨g, 6, none⟩ = some (.int .i64 c.gens)
  c7 : w.cell? ⟨g, 7, none⟩ = some (.int .i64 c.most)
  lt : g < w.heap.size

theorem Boxed.below {w w' : World} {g B : Nat} {c : Cf} (h : Boxed w g c) (hb : Below B w w') (hg : g < B) : Boxed w' g c :=
  ⟨(hb.cell (p := ⟨g, 0, none⟩) hg).trans h.c0, (hb.cell (p := ⟨g, 1, none⟩) hg).trans h.c1, (hb.cell (p := ⟨g, 2, none⟩) hg).trans h.c2, (hb.cell (p := ⟨g, 3, none⟩) hg).trans h.c3, (hb.cell (p := ⟨g, 4, none⟩) hg).trans h.c4, (hb.cell (p := ⟨g, 5, none⟩) hg).trans h.c5, (hb.cell (p := ⟨g, 6, none⟩) hg).trans h.c6, (hb.cell (p := ⟨g, 7, none⟩) hg).trans h.c7, Nat.lt_of_lt_of_le h.lt hb.size⟩
theorem Boxed.new (w : World) (c : Cf) : Boxed (w.alloc (.cells #[.int .i64 c.size, .int .i64 c.pages, .slice c.ca c.cn c.cc, .slice c.ka c.kn c.kc, .int .i64 c.step, .int .i64 c.slots, .int .i64 c.gens, .int .i64 c.most] 24)) w.heap.size c := ⟨by go_simp, by go_simp, by go_simp, by go_simp, by go_simp, by go_simp, by go_simp, by go_simp, by simp⟩
theorem Boxed.on {w w' : World} {g : Nat} {c : Cf} (h : Boxed w g c) (hb : Below w.heap.size w w') : Boxed w' g c := h.below hb h.lt

/-- The eight cells, through a call. -/
theorem keep8 {w w' : World} {B g : Nat} {c : Cf} (hb : Below B w w') (hg : g < B) (h : w.cell? ⟨g, 0, none⟩ = some (.int .i64 c.size) ∧ w.cell? ⟨g, 1, none⟩ = some (.int .i64 c.pages) ∧
      w.cell? ⟨g, 2, none⟩ = some (.slice c.ca c.cn c.cc) ∧ w.cell? ⟨g, 3, none⟩ = some (.slice c.ka c.kn c.kc) ∧
      w.cell? ⟨g, 4, none⟩ = some (.int .i64 c.step) ∧ w.cell? ⟨g, 5, none⟩ = some (.int .i64 c.slots) ∧
      w.cell? ⟨g, 6, none⟩ = some (.int .i64 c.gens) ∧ w.cell? ⟨g, 7, none⟩ = some (.int .i64 c.most)) :
    w'.cell? ⟨g, 0, none⟩ = some (.int .i64 c.size) ∧ w'.cell? ⟨g, 1, none⟩ = some (.int .i64 c.pages) ∧
      w'.cell? ⟨g, 2, none⟩ = some (.slice c.ca c.cn c.cc) ∧ w'.cell? ⟨g, 3, none⟩ = some (.slice c.ka c.kn c.kc) ∧
      w'.cell? ⟨g, 4, none⟩ = some (.int .i64 c.step) ∧ w'.cell? ⟨g, 5, none⟩ = some (.int .i64 c.slots) ∧
      w'.cell? ⟨g, 6, none⟩ = some (.int .i64 c.gens) ∧ w'.cell? ⟨g, 7, none⟩ = some (.int .i64 c.most) :=
  ⟨(hb.cell (p := ⟨g, 0, none⟩) hg).trans h.1, (hb.cell (p := ⟨g, 1, none⟩) hg).trans h.2.1, (hb.cell (p := ⟨g, 2, none⟩) hg).trans h.2.2.1, (hb.cell (p := ⟨g, 3, none⟩) hg).trans h.2.2.2.1, (hb.cell (p := ⟨g, 4, none⟩) hg).trans h.2.2.2.2.1, (hb.cell (p := ⟨g, 5, none⟩) hg).trans h.2.2.2.2.2.1, (hb.cell (p := ⟨g, 6, none⟩) hg).trans h.2.2.2.2.2.2.1, (hb.cell (p := ⟨g, 7, none⟩) hg).trans h.2.2.2.2.2.2.2⟩

/-- A list's cell, and the eight cells, through a call. -/
theorem keep9c {w w' : World} {B g b o : Nat} {c : Cf} {s : Int} (hb : Below B w w') (hg : g < B) (hB : b < B) (h : w.cell? ⟨b, o, none⟩ = some (.int .i64 s) ∧ w.cell? ⟨g, 0, none⟩ = some (.int .i64 c.size) ∧ w.cell? ⟨g, 1, none⟩ = some (.int .i64 c.pages) ∧
      w.cell? ⟨g, 2, none⟩ = some (.slice c.ca c.cn c.cc) ∧ w.cell? ⟨g, 3, none⟩ = some (.slice c.ka c.kn c.kc) ∧
      w.cell? ⟨g, 4, none⟩ = some (.int .i64 c.step) ∧ w.cell? ⟨g, 5, none⟩ = some (.int .i64 c.slots) ∧
      w.cell? ⟨g, 6, none⟩ = some (.int .i64 c.gens) ∧ w.cell? ⟨g, 7, none⟩ = some (.int .i64 c.most)) :
    w'.cell? ⟨b, o, none⟩ = some (.int .i64 s) ∧ w'.cell? ⟨g, 0, none⟩ = some (.int .i64 c.size) ∧ w'.cell? ⟨g, 1, none⟩ = some (.int .i64 c.pages) ∧
      w'.cell? ⟨g, 2, none⟩ = some (.slice c.ca c.cn c.cc) ∧ w'.cell? ⟨g, 3, none⟩ = some (.slice c.ka c.kn c.kc) ∧
      w'.cell? ⟨g, 4, none⟩ = some (.int .i64 c.step) ∧ w'.cell? ⟨g, 5, none⟩ = some (.int .i64 c.slots) ∧
      w'.cell? ⟨g, 6, none⟩ = some (.int .i64 c.gens) ∧ w'.cell? ⟨g, 7, none⟩ = some (.int .i64 c.most) :=
  ⟨(hb.cell (p := ⟨b, o, none⟩) hB).trans h.1, keep8 hb hg h.2⟩

theorem small_ints (w : World) (g : Nat) (B : Nat) (a b : Int) (h0 : w.cell? ⟨g, 0, none⟩ = some (.int .i64 a)) (h1 : w.cell? ⟨g, 1, none⟩ = some (.int .i64 b)) (hB : g < B)
    (ha : Fit a) (hb : Fit b) : Ints w B (some ⟨g, 0, none⟩) 2 [a, b] := by
  refine ⟨rfl, by omega, ?_, fun _ => ⟨g, 0, rfl, hB, fun k s hs => ?_⟩⟩
  · intro x hx
    simp at hx
    rcases hx with rfl | rfl
    · exact ha
    · exact hb
  · match k, hs with
    | 0, hs => simp at hs; subst hs; simpa using h0
    | 1, hs => simp at hs; subst hs; simpa using h1
    | k + 2, hs => simp at hs
end Go.Proofs.Ytfkegbipfekbdaa
/-
  Package pool: New, met by contracts.
-/
namespace Go.Proofs.Ytfkegbipfekbdaa.Pl
open Go.ChangeShapes Go.WideShapes Go.ChangeAt Go.RowKit
set_option maxRecDepth 100000

/-- Pages that may be. -/
def mayB (n : Int) : Bool := decide (1 ≤ n) && decide (n ≤ 1024)
theorem new_bad (n : Int) (w : World) (h : mayB n = false) :
    Calls Try.prog 23 #[.int .i64 n] w fun e w' => e = .returned (.tuple #[.pointer none, .int .i64 1]) ∧ w = w' := by
  by_cases h1 : n < 1
  · have d1 : decide (n < 1) = true := by simpa using h1
    clear h
    go_enter Try.func23, Try.ntmps23
    go_wp2
    go_ret2
    exact ⟨rfl, rfl⟩
  · have d1 : decide (n < 1) = false := by simpa using h1
    have d2 : decide (1024 < n) = true := by simp [mayB] at h; simp; omega
    clear h
    go_enter Try.func23, Try.ntmps23
    go_wp2
    go_ret2
    exact ⟨rfl, rfl⟩

/-- A block of pages that nothing was laid into. -/
def noPages (n : Nat) : Obj := .cells (madeCells #[.int .i64 0, .nilFunc] (n * 2)) 90
theorem make_pages (n : Nat) (hn : n ≤ 1024) (v : World) :
    (Instr.makeSlice 85 (.int .i64 (n : Int)) (.int .i64 (n : Int))).run Try.prog v = .ok (.slice (some ⟨v.heap.size, 0, none⟩) n n) (v.alloc (noPages n)) := by
  obtain ⟨i, hi, hz, hs, hb⟩ : ∃ i, Try.prog.info? 90 = some i ∧ i.zero = some (.agg #[.int .i64 0, .nilFunc]) ∧ i.size = 2 ∧ i.bytes = 16 := ⟨_, rfl, by kernel_rfl, by kernel_rfl, by kernel_rfl⟩
  rw [run_make v 85 90 i _ Try.underlying85 hi hz .i64 .i64 n n (by omega) (by omega) (by rw [hb]; omega) (by omega)]
  simp [hs, noPages, Value.cells]
theorem noPages_cell (w : World) (n q : Nat) (hq : q < n) : (w.alloc (noPages n)).cell? ⟨w.heap.size, q * 2, none⟩ = some (.int .i64 0) ∧ (w.alloc (noPages n)).cell? ⟨w.heap.size, q * 2 + 1, none⟩ = some .nilFunc := by
  have hh : (w.alloc (noPages n)).heap[w.heap.size]? = some (noPages n) := by simp only [World.alloc, Array.getElem?_push, if_true]
  have e0 : q * 2 % 2 = 0 := by omega
  have e1 : (q * 2 + 1) % 2 = 1 := by omega
  constructor
  · rw [World.cell?, hh]
    have h1 : q * 2 < n * 2 := by omega
    simp [noPages, madeCells, h1, e0]
  · rw [World.cell?, hh]
    have h1 : q * 2 + 1 < n * 2 := by omega
    simp [noPages, madeCells, h1, e1]
theorem noPages_free (w : World) (n q : Nat) : (w.alloc (noPages n)).frozen? ⟨w.heap.size, q, none⟩ = false := by
  have hh : (w.alloc (noPages n)).heap[w.heap.size]? = some (noPages n) := by simp only [World.alloc, Array.getElem?_push, if_true]
  rw [World.frozen?, hh]
  simp [noPages]

/-- k of K pages are laid. -/
structure Nt (w : World) (p a K k : Nat) : Prop where
  c0 : w.cell? ⟨p, 0, none⟩ = some (.slice (some ⟨a, 0, none⟩) K K)
  c1 : w.cell? ⟨p, 1, none⟩ = some (.int .i64 0)
  c2 : w.cell? ⟨p, 2, none⟩ = some (.int .i64 (K : Int))
  f1 : w.frozen? ⟨p, 1, none⟩ = false
  f2 : w.frozen? ⟨p, 2, none⟩ = false
  lo : ∀ j, j < k → w.cell? ⟨a, j * 2, none⟩ = some (.int .i64 (-1)) ∧ w.cell? ⟨a, j * 2 + 1, none⟩ = some (.func (.func 52) #[.int .i64 (j : Int)] #[])
  hi : ∀ j, k ≤ j → j < K → w.cell? ⟨a, j * 2, none⟩ = some (.int .i64 0) ∧ w.cell? ⟨a, j * 2 + 1, none⟩ = some .nilFunc
  fo : ∀ q, q < K * 2 → w.frozen? ⟨a, q, none⟩ = false
  pa : p ≠ a
section
variable {w w0 : World} {p a K k : Nat}
theorem Nt.start (w : World) (K : Nat) : Nt ((w.alloc (noPages K)).alloc (.cells #[.slice (some ⟨w.heap.size, 0, none⟩) K K, .int .i64 0, .int .i64 (K : Int)] 87)) (w.heap.size + 1) w.heap.size K 0 := by
  have hb := below1 (w.alloc (noPages K)) (.cells #[.slice (some ⟨w.heap.size, 0, none⟩) K K, .int .i64 0, .int .i64 (K : Int)] 87)
  have hs : (w.alloc (noPages K)).heap.size = w.heap.size + 1 := by simp
  refine ⟨by go_simp, by go_simp, by go_simp, by go_simp, by go_simp, fun j hj => absurd hj (by omega), fun j _ hj => ?_, fun q _ => ?_, by omega⟩
  · obtain ⟨e0, e1⟩ := noPages_cell w K j hj
    exact ⟨(hb.cell (p := ⟨w.heap.size, j * 2, none⟩) (by rw [hs]; show w.heap.size < _; omega)).trans e0, (hb.cell (p := ⟨w.heap.size, j * 2 + 1, none⟩) (by rw [hs]; show w.heap.size < _; omega)).trans e1⟩
  · exact ((Below.but hb fun _ => False).frozen (p := ⟨w.heap.size, q, none⟩) (by rw [hs]; show w.heap.size < _; omega) id).trans (noPages_free w K q)
theorem Nt.next (h : Nt w p a K k) (hk : k < K) :
    Nt ((w.setCell ⟨a, k * 2, none⟩ (.int .i64 (-1))).setCell ⟨a, k * 2 + 1, none⟩ (.func (.func 52) #[.int .i64 (k : Int)] #[])) p a K (k + 1) := by
  have hpa := h.pa
  have other : ∀ (q : Addr) (x : Value), (⟨a, k * 2, none⟩ : Addr) ≠ q → (⟨a, k * 2 + 1, none⟩ : Addr) ≠ q → w.cell? q = some x → ((w.setCell ⟨a, k * 2, none⟩ (.int .i64 (-1))).setCell ⟨a, k * 2 + 1, none⟩ (.func (.func 52) #[.int .i64 (k : Int)] #[])).cell? q = some x := by
    intro q x n1 n2 hx
    rw [World.cell?_setCell_other _ _ _ _ n2, World.cell?_setCell_other _ _ _ _ n1]
    exact hx
  obtain ⟨e0, e1⟩ := h.hi k (Nat.le_refl _) hk
  refine ⟨other _ _ (by simp <;> omega) (by simp <;> omega) h.c0, other _ _ (by simp <;> omega) (by simp <;> omega) h.c1, other _ _ (by simp <;> omega) (by simp <;> omega) h.c2, by simpa using h.f1, by simpa using h.f2, fun j hj => ?_, fun j h1 h2 => ?_, fun q hq => by simpa using h.fo q hq, hpa⟩
  · by_cases z : j = k
    · subst z
      constructor
      · rw [World.cell?_setCell_other _ _ _ _ (by simp <;> omega)]
        exact World.cell?_setCell_same w _ _ e0
      · refine World.cell?_setCell_same _ _ _ (show _ = some .nilFunc from ?_)
        rw [World.cell?_setCell_other _ _ _ _ (by simp <;> omega)]
        exact e1
    · obtain ⟨l0, l1⟩ := h.lo j (by omega)
      exact ⟨other _ _ (by simp <;> omega) (by simp <;> omega) l0, other _ _ (by simp <;> omega) (by simp <;> omega) l1⟩
  · obtain ⟨l0, l1⟩ := h.hi j (by omega) h2
    exact ⟨other _ _ (by simp <;> omega) (by simp <;> omega) l0, other _ _ (by simp <;> omega) (by simp <;> omega) l1⟩
theorem turns_drop {j : Nat} (hj : j < K) : (turns K).drop j = (j : Int) :: (turns K).drop (j + 1) := by
  have hl : j < (turns K).length := by rw [turns_len]; exact hj
  rw [List.drop_eq_getElem_cons hl]
  have := turns_at hj
  rw [List.getElem?_eq_getElem hl] at this
  rw [Option.some.inj this]
theorem turns_hd {j : Nat} (hj : j ≤ K) : hd K ((turns K).drop j) = (j : Int) := by
  by_cases h : j < K
  · rw [turns_drop h]; rfl
  · rw [List.drop_of_length_le (by rw [turns_len]; omega)]
    have : j = K := by omega
    rw [this]; rfl
theorem Nt.thr (h : Nt w p a K K) : ∀ n j, j + n = K → Thr w p a K ((turns K).drop j) := by
  intro n
  induction n with
  | zero =>
    intro j hj
    rw [List.drop_of_length_le (by rw [turns_len]; omega)]
    trivial
  | succ n ih =>
    intro j hj
    rw [turns_drop (by omega)]
    refine ⟨⟨_, by rw [Int.toNat_natCast]; exact (h.lo j (by omega)).2, Or.inl ?_⟩, ih (j + 1) (by omega)⟩
    rw [turns_hd (by omega), show ((j + 1 : Nat) : Int) - 1 = (j : Int) by omega]
theorem Nt.done (h : Nt w p a K K) (h1 : 1 ≤ K) (h2 : K ≤ 1024) : Pm w p a K (freed K) (turns K) := by
  refine ⟨Pw.new K, h.c0, ?_, by rw [turns_len]; exact h.c2, h.f1, h.f2, fun j x hj => ?_, fun j hj => ⟨_, (h.lo j hj).2⟩, h.fo, h.thr K 0 (by omega), h.pa, h1, h2⟩
  · have := turns_hd (K := K) (j := 0) (by omega)
    rw [List.drop_zero] at this
    rw [this]
    exact h.c1
  · unfold freed at hj
    rw [List.getElem?_replicate] at hj
    split at hj
    · rename_i hk
      cases hj
      exact (h.lo j hk).1
    · cases hj
end

set_option maxHeartbeats 1000000 in
theorem new_ok (K : Nat) (w : World) (h1 : 1 ≤ K) (h2 : K ≤ 1024) :
    Calls Try.prog 23 #[.int .i64 (K : Int)] w fun e w' => ∃ p a, e = .returned (.tuple #[.pointer (some ⟨p, 0, none⟩), .int .i64 0]) ∧ Pm w' p a K (freed K) (turns K) ∧ Below w.heap.size w w' ∧ w.heap.size ≤ p ∧ w.heap.size ≤ a := by
  have d1 : decide ((K : Int) < 1) = false := by simp; omega
  have d2 : decide ((1024 : Int) < (K : Int)) = false := by simp; omega
  have m1 := make_pages K h2
  have N0 := Lib.hid (Nt.start w K)
  have B0 : Hid (Below w.heap.size w ((w.alloc (noPages K)).alloc (.cells #[.slice (some ⟨w.heap.size, 0, none⟩) K K, .int .i64 0, .int .i64 (K : Int)] 87))) := Lib.hid (below2 w _ _)
  have hst : ∀ (q : Addr) (fn : Fn) (s c : Array Value) (m : Mode) (u : World), (store q (.func fn s c) m).run Try.prog u = stored Try.prog u q (.func fn s c) m := fun q fn s c m u => run_store Try.prog u q _ m rfl
  have hmf : ∀ (fn : Fn) (first cap : Array Value) (w : World), (Instr.makeFunc fn first cap).run Try.prog w = .ok (.func fn first cap) w := fun _ _ _ _ => rfl
  have hp1 : Hid (w.heap.size ≤ w.heap.size + 1) := Lib.hid (by omega)
  have ha1 : Hid (w.heap.size ≤ w.heap.size) := Lib.hid (by omega)
  go_enter Try.func23, Try.ntmps23
  go_wp2
  generalize (w.alloc (noPages K)).alloc (.cells #[.slice (some ⟨w.heap.size, 0, none⟩) K K, .int .i64 0, .int .i64 (K : Int)] 87) = w1 at N0 B0 ⊢
  obtain ⟨p, hp⟩ : ∃ p, p = w.heap.size + 1 := ⟨_, rfl⟩
  obtain ⟨a, ha⟩ : ∃ a, a = w.heap.size := ⟨_, rfl⟩
  have HP : Hid (w.heap.size ≤ p ∧ w.heap.size ≤ a) := Lib.hid (by omega)
  rw [← hp] at N0 ⊢
  rw [← ha] at N0
  clear hp ha hp1 ha1 m1
  go_loopw [22, 5] (fun i _ wr => ∃ k : Nat, k ≤ K ∧ i = .int .i64 k ∧ Nt wr p a K k ∧ Below w.heap.size w wr) (fun i _ _ => K - (intOf i).toNat)
  case atStart => exact ⟨0, by omega, rfl, N0.out, B0.out⟩
  case round =>
    obtain ⟨k, hk, rfl, hn, hb⟩ := hrel
    have HN := Lib.hid hn
    have HB := Lib.hid hb
    clear hb
    by_cases hlt : k < K
    · have dk : decide ((k : Int) < (K : Int)) = true := by simp; omega
      have c0 := hn.c0
      obtain ⟨e0, e1⟩ := hn.hi k (Nat.le_refl _) hlt
      have g0 := hn.fo (k * 2) (by omega)
      have g1 := hn.fo (k * 2 + 1) (by omega)
      clear hn
      go_wp2
      go_roundw
      case rel =>
        refine ⟨k + 1, by omega, by go_num, HN.out.next hlt, ?_⟩
        have hbb : But (· = a) wr ((wr.setCell ⟨a, k * 2, none⟩ (.int .i64 (-1))).setCell ⟨a, k * 2 + 1, none⟩ (.func (.func 52) #[.int .i64 (k : Int)] #[])) :=
          ((But.refl (· = a) wr).setCell (p := ⟨a, k * 2, none⟩) (fun _ => rfl) _).setCell (p := ⟨a, k * 2 + 1, none⟩) (fun _ => rfl) _
        exact HB.out.trans (hbb.one HB.out.size HP.out.2)
      case measure => simp [intOf]; omega
    · have dk : decide ((k : Int) < (K : Int)) = false := by simp; omega
      obtain rfl : k = K := by omega
      clear hn
      go_wp2
      go_ret2
      exact ⟨p, a, rfl, HN.out.done h1 h2, HB.out, HP.out.1, HP.out.2⟩
end Go.Proofs.Ytfkegbipfekbdaa.Pl
