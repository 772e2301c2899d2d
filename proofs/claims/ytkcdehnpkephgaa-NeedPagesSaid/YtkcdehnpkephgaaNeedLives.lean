/-
  lives of package need, met by a contract: of a layout that may be, of each class how many of the sizes are its things; all memory that was there is as it was.
-/
import Derived.Test.YtkcdehnpkephgaaNeedNum
import Derived.Test.YtkcdehnpkephgaaConfBox
import Derived.Test.YtkcdehnpkephgaaIntsMake
import Derived.Test.YtkcdehnpkephgaaConfAsk
import Derived.Test.YtkcdehnpkephgaaClassPick
import Derived.Lib.MinMax
namespace Go.Proofs.Ytkcdehnpkephgaa
open Go.ChangeShapes Go.WideShapes Go.ChangeAt Go.RowKit

/-- Of each class how many things it has. -/
def livesL (c : Cf) (l : List Int) : List Int := (List.range c.xs.length).map fun (k : Nat) => ((liveN c l (k : Int) : Nat) : Int)
theorem livesL_len (c : Cf) (l : List Int) : (livesL c l).length = c.xs.length := by simp [livesL]
theorem livesL_at (c : Cf) (l : List Int) {k : Nat} (h : k < c.xs.length) : (livesL c l)[k]? = some ((liveN c l (k : Int) : Nat) : Int) := by simp [livesL, h]
theorem livesL_nil (c : Cf) : livesL c [] = List.replicate c.xs.length 0 := by
  refine List.ext_getElem? fun k => ?_
  by_cases h : k < c.xs.length
  · rw [livesL_at c [] h, List.getElem?_replicate, if_pos h]
    rfl
  · rw [List.getElem?_eq_none (by rw [livesL_len]; omega), List.getElem?_eq_none (by rw [List.length_replicate]; omega)]
/-- What is no small thing changes nothing. -/
theorem livesL_off {c : Cf} (h : MayC c) {l : List Int} {s : Int} (hs : s < 1 ∨ min (small c) c.most < s) : livesL c (l ++ [s]) = livesL c l := by
  refine List.ext_getElem? fun k => ?_
  by_cases hk : k < c.xs.length
  · rw [livesL_at c _ hk, livesL_at c _ hk, liveN_app, liveN_one]
    have : liveB c (k : Int) s = false := by
      rcases hs with g | g
      · simp [liveB, isT]; omega
      · by_cases q : s ≤ c.most
        · have hp := h.pick_large (s := s) (by omega)
          have hk2 : ¬ (-1 : Int) = (k : Int) := by omega
          simp [liveB, hp, hk2]
        · simp [liveB, isT]; omega
    rw [this]
    simp
  · rw [List.getElem?_eq_none (by rw [livesL_len]; omega), List.getElem?_eq_none (by rw [livesL_len]; omega)]
/-- A small thing is one more of its class. -/
theorem livesL_on {c : Cf} (h : MayC c) {l : List Int} {s : Int} (h1 : 1 ≤ s) (h2 : s ≤ min (small c) c.most) :
    ∃ j : Nat, j < c.xs.length ∧ pick c.xs s = (j : Int) ∧ livesL c (l ++ [s]) = (livesL c l).set j (((liveN c l (j : Int) : Nat) : Int) + 1) := by
  obtain ⟨j, hj, hp⟩ := h.pick_small h1 (show s ≤ small c by omega)
  refine ⟨j, hj, hp, List.ext_getElem? fun k => ?_⟩
  by_cases hk : k < c.xs.length
  · rw [livesL_at c _ hk, liveN_app, liveN_one]
    by_cases e : j = k
    · subst e
      rw [List.getElem?_set_self (by rw [livesL_len]; exact hj)]
      have : liveB c (j : Int) s = true := by simp [liveB, hp, isT, h1]; omega
      rw [this, if_pos rfl]
      simp
    · rw [List.getElem?_set_ne e, livesL_at c _ hk]
      have hk2 : ¬ (j : Int) = (k : Int) := by omega
      have : liveB c (k : Int) s = false := by simp [liveB, hp, hk2]
      rw [this]
      simp
  · rw [List.getElem?_eq_none (by rw [livesL_len]; omega), List.getElem?_eq_none (by rw [List.length_set, livesL_len]; omega)]

/-- How lives ends. -/
def LivesEnd (c : Cf) (l : List Int) (w : World) (e : Ending) (w' : World) : Prop :=
  ∃ g, e = .returned (.slice (some ⟨g, 0, none⟩) c.cn c.cn) ∧ IRow w' g (livesL c l) ∧ w.heap.size ≤ g ∧ Below w.heap.size w w'
theorem keepC {w w' : World} {B g : Nat} {c : Cf} (hb : Below B w w') (hg : g < B) (h : w.cell? ⟨g, 2, none⟩ = some (.slice c.ca c.cn c.cc)) : w'.cell? ⟨g, 2, none⟩ = some (.slice c.ca c.cn c.cc) := (hb.cell (p := ⟨g, 2, none⟩) hg).trans h

set_option maxHeartbeats 1600000 in
theorem lives_any (c : Cf) (a : Option Addr) (n k0 : Nat) (l : List Int) (w : World) (hc : c.Ok w w.heap.size) (h : MayC c) (hl : Ints w w.heap.size a n l) (hn : n ≤ 1000000) :
    Calls Try.prog 25 #[(.agg #[.int .i64 c.size, .int .i64 c.pages, .slice c.ca c.cn c.cc, .slice c.ka c.kn c.kc, .int .i64 c.step, .int .i64 c.slots, .int .i64 c.gens, .int .i64 c.most]), .slice a n k0] w (LivesEnd c l w) := by
  have hlen := hc.classes.len
  have hfew := h.few
  have hone := h.one
  have hcn : c.cn ≤ 16 := by omega
  have hmk : ∀ v, (Instr.makeSlice 22 (.int .i64 (c.cn : Int)) (.int .i64 (c.cn : Int))).run Try.prog v = .ok (.slice (some ⟨v.heap.size, 0, none⟩) c.cn c.cn) (v.alloc (noInts c.cn)) := make_ints c.cn (by omega)
  have R0 := IRow.new (w.alloc (.cells #[.int .i64 c.size, .int .i64 c.pages, .slice c.ca c.cn c.cc, .slice c.ka c.kn c.kc, .int .i64 c.step, .int .i64 c.slots, .int .i64 c.gens, .int .i64 c.most] 24)) c.cn (by omega)
  have B0 := (Boxed.new w c).on (below1 (w.alloc (.cells #[.int .i64 c.size, .int .i64 c.pages, .slice c.ca c.cn c.cc, .slice c.ka c.kn c.kc, .int .i64 c.step, .int .i64 c.slots, .int .i64 c.gens, .int .i64 c.most] 24)) (noInts c.cn))
  have O0 := hc.below (below2 w (.cells #[.int .i64 c.size, .int .i64 c.pages, .slice c.ca c.cn c.cc, .slice c.ka c.kn c.kc, .int .i64 c.step, .int .i64 c.slots, .int .i64 c.gens, .int .i64 c.most] 24) (noInts c.cn))
  have L0 := hl.below (below2 w (.cells #[.int .i64 c.size, .int .i64 c.pages, .slice c.ca c.cn c.cc, .slice c.ka c.kn c.kc, .int .i64 c.step, .int .i64 c.slots, .int .i64 c.gens, .int .i64 c.most] 24) (noInts c.cn))
  have b0 := below2 w (.cells #[.int .i64 c.size, .int .i64 c.pages, .slice c.ca c.cn c.cc, .slice c.ka c.kn c.kc, .int .i64 c.step, .int .i64 c.slots, .int .i64 c.gens, .int .i64 c.most] 24) (noInts c.cn)
  have hsz : (w.alloc (.cells #[.int .i64 c.size, .int .i64 c.pages, .slice c.ca c.cn c.cc, .slice c.ka c.kn c.kc, .int .i64 c.step, .int .i64 c.slots, .int .i64 c.gens, .int .i64 c.most] 24)).heap.size = w.heap.size + 1 := by simp
  rw [hsz] at R0
  have hsz2 : ((w.alloc (.cells #[.int .i64 c.size, .int .i64 c.pages, .slice c.ca c.cn c.cc, .slice c.ka c.kn c.kc, .int .i64 c.step, .int .i64 c.slots, .int .i64 c.gens, .int .i64 c.most] 24)).alloc (noInts c.cn)).heap.size = w.heap.size + 1 + 1 := by simp
  have HS := Lib.hid (fun v hv => small_any c v hv)
  have HM := Lib.hid h
  have HN := Lib.hid hlen
  clear hlen hfew hone h hc hl
  go_enter Try.func25, Try.ntmps25
  go_wp2
  generalize (w.alloc (.cells #[.int .i64 c.size, .int .i64 c.pages, .slice c.ca c.cn c.cc, .slice c.ka c.kn c.kc, .int .i64 c.step, .int .i64 c.slots, .int .i64 c.gens, .int .i64 c.most] 24)).alloc (noInts c.cn) = wA at *
  have ⟨x0, x1, x2, x3, x4, x5, x6, x7, x8⟩ := B0
  have O1 := Lib.hid O0
  have L1 := Lib.hid L0
  have R1 := Lib.hid R0
  have b1 := Lib.hid b0
  clear O0 L0 R0 b0 B0 hsz
  go_region_held3 (fun w' => w'.cell? ⟨w.heap.size, 0, none⟩ = some (.int .i64 c.size) ∧ w'.cell? ⟨w.heap.size, 1, none⟩ = some (.int .i64 c.pages) ∧
      w'.cell? ⟨w.heap.size, 2, none⟩ = some (.slice c.ca c.cn c.cc) ∧ w'.cell? ⟨w.heap.size, 3, none⟩ = some (.slice c.ka c.kn c.kc) ∧
      w'.cell? ⟨w.heap.size, 4, none⟩ = some (.int .i64 c.step) ∧ w'.cell? ⟨w.heap.size, 5, none⟩ = some (.int .i64 c.slots) ∧
      w'.cell? ⟨w.heap.size, 6, none⟩ = some (.int .i64 c.gens) ∧ w'.cell? ⟨w.heap.size, 7, none⟩ = some (.int .i64 c.most))
      (first | exact ⟨x0, x1, x2, x3, x4, x5, x6, x7⟩ | exact keep8 f5 x8 (by assumption) | go_keep)
      (first
        | (go_at_call 23; refine (HS.out _ (by exact O1.out.drew.more (by show w.heap.size ≤ wA.heap.size; omega))).mono ?_; rintro e w5 ⟨rfl, f5⟩))
  have f6 : Below wA.heap.size wA w5 := ⟨f5.os, f5.tape, f5.output, f5.size, f5.block⟩
  have bb := b1.out.trans (f6.mono (show w.heap.size ≤ wA.heap.size by omega))
  have BB := Lib.hid bb
  have L5 := Lib.hid (L1.out.below (f6.mono (show w.heap.size ≤ wA.heap.size by omega)))
  have y2 := keepC f6 (show w.heap.size < wA.heap.size by omega) x2
  have C5 := Lib.hid (O1.out.below (f6.mono (show w.heap.size ≤ wA.heap.size by omega))).classes
  have R5 := Lib.hid (R1.out.on f6)
  have SM := Lib.hid HM.out.small
  have LG := Lib.hid (HM.out.large)
  have hsz5 : wA.heap.size ≤ w5.heap.size := f6.size
  have hcnn : c.cn ≤ 9223372036854775807 := by omega
  clear b1 O1 L1 R1 bb f5 f6 x0 x1 x2 x3 x4 x5 x6 x7 HS hmk
  go_wp2
  go_loopw [20] (fun i wr => ∃ k : Nat, k ≤ n ∧ i = .int .i64 k ∧ Below (w.heap.size + 1) w5 wr ∧ Hid (IRow wr (w.heap.size + 1) (livesL c (l.take k)))) (fun i _ => n - (intOf i).toNat)
  case atStart => exact ⟨0, Nat.zero_le _, rfl, Below.refl _ _, Lib.hid (by rw [List.take_zero, livesL_nil, HN.out]; exact R5.out)⟩
  case round =>
    obtain ⟨k, hk, rfl, bw, HR⟩ := hrel
    by_cases hlt : k < n
    · obtain ⟨s, hs, s1, s2⟩ := L5.out.at_ hlt
      have z2 := keepC bw (show w.heap.size < w.heap.size + 1 by omega) y2
      have Lw := L5.out.below (bw.mono (by omega))
      obtain ⟨b, o, rfl, hb, hcl⟩ := Lw.head (by omega)
      have hcell := hcl k s hs
      have et : l.take (k + 1) = l.take k ++ [s] := by rw [List.take_add_one, hs]; rfl
      have HE := Lib.hid et
      clear hcl hs et Lw
      by_cases h1 : s < 1
      · have d1 : decide (1 ≤ s) = false := by simpa using h1
        have HN2 : Hid (IRow wr (w.heap.size + 1) (livesL c (l.take (k + 1)))) := Lib.hid (by rw [HE.out, livesL_off HM.out (.inl h1)]; exact HR.out)
        go_wp2
        go_roundw
        case rel => exact ⟨k + 1, by omega, by go_num, bw, HN2⟩
        case measure => simp [intOf]; omega
      · have d1 : decide (1 ≤ s) = true := by simp; omega
        by_cases h2 : min (small c) c.most < s
        · have d2 : decide (s ≤ min (small c) c.most) = false := decide_eq_false (by omega)
          have HN2 : Hid (IRow wr (w.heap.size + 1) (livesL c (l.take (k + 1)))) := Lib.hid (by rw [HE.out, livesL_off HM.out (.inr h2)]; exact HR.out)
          clear h2
          go_wp2
          go_roundw
          case rel => exact ⟨k + 1, by omega, by go_num, bw, HN2⟩
          case measure => simp [intOf]; omega
        · have d2 : decide (s ≤ min (small c) c.most) = true := decide_eq_true (by omega)
          obtain ⟨j, hj, hp, hL⟩ := livesL_on HM.out (l := l.take k) (show 1 ≤ s by omega) (show s ≤ min (small c) c.most by omega)
          have hjn : j < c.cn := by have := HN.out; omega
          have hji : (j : Int) < (c.cn : Int) := by omega
          have v1 := liveN_len (c := c) (l := l.take k) (k := (j : Int))
          have v2 : (l.take k).length ≤ 1000000 := by rw [List.length_take]; omega
          have hcnt := HR.out.cell j _ (livesL_at c (l.take k) hj)
          have hfz := HR.out.free j (by rw [livesL_len]; exact hj)
          have HN2 : Hid (IRow (wr.setCell ⟨w.heap.size + 1, j, none⟩ (.int .i64 (((liveN c (l.take k) (j : Int) : Nat) : Int) + 1))) (w.heap.size + 1) (livesL c (l.take (k + 1)))) := Lib.hid (by
            rw [HE.out, hL]
            exact HR.out.set (by rw [livesL_len]; exact hj) (by omega))
          have BN : Hid (Below (w.heap.size + 1) w5 (wr.setCell ⟨w.heap.size + 1, j, none⟩ (.int .i64 (((liveN c (l.take k) (j : Int) : Nat) : Int) + 1)))) := Lib.hid (bw.setCell (Nat.le_refl _) _)
          have HP := pick_any c.ca c.cn c.cc c.xs s _ wr (C5.out.below (bw.mono (by omega)))
          rw [hp] at HP
          have H := Lib.hid HP
          obtain ⟨v, hv⟩ : ∃ v, v = ((liveN c (l.take k) (j : Int) : Nat) : Int) := ⟨_, rfl⟩
          rw [← hv] at hcnt HN2 BN
          have hv2 : 0 ≤ v ∧ v ≤ 1000000 := by omega
          clear hv v1 v2
          clear HP hp hL hj h1 h2 bw HR
          go_wp2_with fail
          refine H.out.mono ?_
          rintro e w6 ⟨rfl, rfl⟩
          go_wp2
          go_roundw
          case rel => exact ⟨k + 1, by omega, by go_num, BN.out, HN2⟩
          case measure => simp [intOf]; omega
    · obtain rfl : k = n := by omega
      have e : l.take k = l := List.take_of_length_le (by have := L5.out.len; omega)
      go_wp2
      go_ret
      refine ⟨_, rfl, ?_, by omega, BB.out.trans (bw.mono (by omega))⟩
      rw [← e]
      exact HR.out
end Go.Proofs.Ytkcdehnpkephgaa
