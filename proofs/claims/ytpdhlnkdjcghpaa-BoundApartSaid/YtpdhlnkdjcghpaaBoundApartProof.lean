/-
  almerylaw18.BoundApart returns true for every two layouts and every two ints, and all memory that was there is as it was. No condition.
-/
import Derived.Test.YtpdhlnkdjcghpaaRows
import Derived.WalkKit
import Derived.ProofKit
import Derived.OpenShut
import Derived.Test.YtpdhlnkdjcghpaaBoundAwake
import Derived.Test.YtpdhlnkdjcghpaaConfRefMay
import Derived.Test.YtpdhlnkdjcghpaaTwoI
import Derived.Test.YtpdhlnkdjcghpaaHeldOff
import Derived.ShutString
import Derived.ChangeOld
import Derived.Below
namespace Go.Proofs.Ytpdhlnkdjcghpaa.boundApart
open Go.ChangeShapes Go.WideShapes Go.ChangeAt Go.RowKit
open Go.ChangeMaps (open_string shut_string)
set_option linter.unusedVariables false

theorem own : ownKnob Try.prog.godebug = none := by kernel_rfl
theorem laidOut : laidOutB Try.prog = true := by kernel_rfl

/-- The layout that has the other one's pages, slots, generations, and what may stay open. -/
theorem like_ok {c d : Cf} {w : World} {B : Nat} (hc : c.Ok w B) (hd : d.Ok w B) : (likeC c d).Ok w B :=
  ⟨hc.classes, hd.keep, hc.size, hd.pages, hc.step, hd.slots, hd.gens, hc.most⟩

/-! ### The walk -/
set_option maxRecDepth 20000 in
set_option maxHeartbeats 4000000 in
theorem walk (c : Cf) (d : Cf) (z0 z1 : Int) (w : World) (hc : c.Ok w w.heap.size) (hcc : c.cn ≤ c.cc) (hkc : c.kn ≤ c.kc) (hd : d.Ok w w.heap.size) (hcd : d.cn ≤ d.cc) (hkd : d.kn ≤ d.kc) (hz0 : Fit z0) (hz1 : Fit z1) :
    Calls Try.prog 4 #[.agg #[.int .i64 c.size, .int .i64 c.pages, .slice c.ca c.cn c.cc, .slice c.ka c.kn c.kc, .int .i64 c.step, .int .i64 c.slots, .int .i64 c.gens, .int .i64 c.most], .agg #[.int .i64 d.size, .int .i64 d.pages, .slice d.ca d.cn d.cc, .slice d.ka d.kn d.kc, .int .i64 d.step, .int .i64 d.slots, .int .i64 d.gens, .int .i64 d.most], .agg #[.int .i64 z0, .int .i64 z1]] w fun e w' => e = .returned (.bool true) ∧ Below w.heap.size w w' := by
  obtain ⟨E0, hE0⟩ : ∃ v, v = ((w.alloc (.cells #[.int .i64 c.size, .int .i64 c.pages, .slice c.ca c.cn c.cc, .slice c.ka c.kn c.kc, .int .i64 c.step, .int .i64 c.slots, .int .i64 c.gens, .int .i64 c.most] 24)).alloc (.cells #[.int .i64 d.size, .int .i64 d.pages, .slice d.ca d.cn d.cc, .slice d.ka d.kn d.kc, .int .i64 d.step, .int .i64 d.slots, .int .i64 d.gens, .int .i64 d.most] 24)).alloc (.cells #[.int .i64 z0, .int .i64 z1] 29) := ⟨_, rfl⟩
  have b0 : Below w.heap.size w E0 := by rw [hE0]; exact below3 _ _ _ _
  have C0 : Boxed E0 w.heap.size c := by rw [hE0]; exact (Boxed.new w c).on (below2 _ _ _)
  have D0 : Boxed E0 (w.heap.size + 1) d := by rw [hE0]; have := (Boxed.new (w.alloc (.cells #[.int .i64 c.size, .int .i64 c.pages, .slice c.ca c.cn c.cc, .slice c.ka c.kn c.kc, .int .i64 c.step, .int .i64 c.slots, .int .i64 c.gens, .int .i64 c.most] 24)) d).on (below1 _ (.cells #[.int .i64 z0, .int .i64 z1] 29)); simpa using this
  have Z0 : E0.cell? ⟨w.heap.size + 1 + 1, 0, none⟩ = some (.int .i64 z0) ∧ E0.cell? ⟨w.heap.size + 1 + 1, 1, none⟩ = some (.int .i64 z1) ∧ w.heap.size + 1 + 1 < E0.heap.size := by
    rw [hE0]
    exact ⟨by go_simp, by go_simp, by simp⟩
  have O0 := hc.on b0
  have P0 := hd.on b0
  clear hc hd
  go_enter Try.func4, Try.ntmps4
  go_wp2_with fail
  rw [← hE0]
  clear hE0
  refine (awake18_any _).mono ?_
  rintro e w1 ⟨rfl, f1⟩
  have b1 := belowT b0 f1
  have C1 := C0.on f1
  have D1 := D0.on f1
  have O1 := O0.on f1
  have P1 := P0.on f1
  have Z1 : w1.cell? ⟨w.heap.size + 1 + 1, 0, none⟩ = some (.int .i64 z0) ∧ w1.cell? ⟨w.heap.size + 1 + 1, 1, none⟩ = some (.int .i64 z1) ∧ w.heap.size + 1 + 1 < w1.heap.size := ⟨(f1.cell Z0.2.2).trans Z0.1, (f1.cell Z0.2.2).trans Z0.2.1, Nat.lt_of_lt_of_le Z0.2.2 f1.size⟩
  clear f1 b0 C0 D0 O0 P0 Z0
  have y1 := (D1.on (below1 w1 (.cells #[.int .i64 c.size, .int .i64 c.pages, .slice c.ca c.cn c.cc, .slice c.ka c.kn c.kc, .int .i64 c.step, .int .i64 c.slots, .int .i64 c.gens, .int .i64 c.most] 24))).c1
  have y5 := (D1.on (below1 w1 (.cells #[.int .i64 c.size, .int .i64 d.pages, .slice c.ca c.cn c.cc, .slice c.ka c.kn c.kc, .int .i64 c.step, .int .i64 c.slots, .int .i64 c.gens, .int .i64 c.most] 24))).c5
  have y6 := (D1.on (below1 w1 (.cells #[.int .i64 c.size, .int .i64 d.pages, .slice c.ca c.cn c.cc, .slice c.ka c.kn c.kc, .int .i64 c.step, .int .i64 d.slots, .int .i64 c.gens, .int .i64 c.most] 24))).c6
  have y3 := (D1.on (below1 w1 (.cells #[.int .i64 c.size, .int .i64 d.pages, .slice c.ca c.cn c.cc, .slice c.ka c.kn c.kc, .int .i64 c.step, .int .i64 d.slots, .int .i64 d.gens, .int .i64 c.most] 24))).c3
  have CE : Boxed (w1.alloc (.cells #[.int .i64 c.size, .int .i64 d.pages, .slice c.ca c.cn c.cc, .slice d.ka d.kn d.kc, .int .i64 c.step, .int .i64 d.slots, .int .i64 d.gens, .int .i64 c.most] 24)) w.heap.size c := C1.on (below1 _ _)
  have LE : Boxed (w1.alloc (.cells #[.int .i64 c.size, .int .i64 d.pages, .slice c.ca c.cn c.cc, .slice d.ka d.kn d.kc, .int .i64 c.step, .int .i64 d.slots, .int .i64 d.gens, .int .i64 c.most] 24)) w1.heap.size (likeC c d) := Boxed.new w1 (likeC c d)
  have OE := O1.on (below1 w1 (.cells #[.int .i64 c.size, .int .i64 d.pages, .slice c.ca c.cn c.cc, .slice d.ka d.kn d.kc, .int .i64 c.step, .int .i64 d.slots, .int .i64 d.gens, .int .i64 c.most] 24))
  have PE := P1.on (below1 w1 (.cells #[.int .i64 c.size, .int .i64 d.pages, .slice c.ca c.cn c.cc, .slice d.ka d.kn d.kc, .int .i64 c.step, .int .i64 d.slots, .int .i64 d.gens, .int .i64 c.most] 24))
  have bE := b1.alloc b1.size (.cells #[.int .i64 c.size, .int .i64 d.pages, .slice c.ca c.cn c.cc, .slice d.ka d.kn d.kc, .int .i64 c.step, .int .i64 d.slots, .int .i64 d.gens, .int .i64 c.most] 24)
  have ZE : (w1.alloc (.cells #[.int .i64 c.size, .int .i64 d.pages, .slice c.ca c.cn c.cc, .slice d.ka d.kn d.kc, .int .i64 c.step, .int .i64 d.slots, .int .i64 d.gens, .int .i64 c.most] 24)).cell? ⟨w.heap.size + 1 + 1, 0, none⟩ = some (.int .i64 z0) ∧ (w1.alloc (.cells #[.int .i64 c.size, .int .i64 d.pages, .slice c.ca c.cn c.cc, .slice d.ka d.kn d.kc, .int .i64 c.step, .int .i64 d.slots, .int .i64 d.gens, .int .i64 c.most] 24)).cell? ⟨w.heap.size + 1 + 1, 1, none⟩ = some (.int .i64 z1) ∧ w.heap.size + 1 + 1 < (w1.alloc (.cells #[.int .i64 c.size, .int .i64 d.pages, .slice c.ca c.cn c.cc, .slice d.ka d.kn d.kc, .int .i64 c.step, .int .i64 d.slots, .int .i64 d.gens, .int .i64 c.most] 24)).heap.size := ⟨((below1 w1 _).cell Z1.2.2).trans Z1.1, ((below1 w1 _).cell Z1.2.2).trans Z1.2.1, Nat.lt_of_lt_of_le Z1.2.2 (by simp)⟩
  have ⟨x0, x1, x2, x3, x4, x5, x6, x7, x8⟩ := C1
  have ⟨u0, u1, u2, u3, u4, u5, u6, u7, u8⟩ := CE
  clear C1 D1 O1 P1 b1 Z1
  go_wp2_with fail
  generalize w1.alloc (.cells #[.int .i64 c.size, .int .i64 d.pages, .slice c.ca c.cn c.cc, .slice d.ka d.kn d.kc, .int .i64 c.step, .int .i64 d.slots, .int .i64 d.gens, .int .i64 c.most] 24) = W at *
  generalize w1.heap.size = G at *
  generalize w.heap.size + 1 + 1 = Z at *
  obtain ⟨N, hN⟩ : ∃ N, N = w.heap.size := ⟨_, rfl⟩
  rw [← hN] at CE u0 u1 u2 u3 u4 u5 u6 u7 u8 ⊢
  have ⟨e0, e1, e2, e3, e4, e5, e6, e7, e8⟩ := LE
  clear LE CE
  have kW : W.cell? ⟨N, 0, none⟩ = some (.int .i64 c.size) ∧ W.cell? ⟨N, 1, none⟩ = some (.int .i64 c.pages) ∧ W.cell? ⟨N, 2, none⟩ = some (.slice c.ca c.cn c.cc) ∧ W.cell? ⟨N, 3, none⟩ = some (.slice c.ka c.kn c.kc) ∧ W.cell? ⟨N, 4, none⟩ = some (.int .i64 c.step) ∧ W.cell? ⟨N, 5, none⟩ = some (.int .i64 c.slots) ∧ W.cell? ⟨N, 6, none⟩ = some (.int .i64 c.gens) ∧ W.cell? ⟨N, 7, none⟩ = some (.int .i64 c.most) ∧ W.cell? ⟨G, 0, none⟩ = some (.int .i64 c.size) ∧ W.cell? ⟨G, 1, none⟩ = some (.int .i64 d.pages) ∧ W.cell? ⟨G, 2, none⟩ = some (.slice c.ca c.cn c.cc) ∧ W.cell? ⟨G, 3, none⟩ = some (.slice d.ka d.kn d.kc) ∧ W.cell? ⟨G, 4, none⟩ = some (.int .i64 c.step) ∧ W.cell? ⟨G, 5, none⟩ = some (.int .i64 d.slots) ∧ W.cell? ⟨G, 6, none⟩ = some (.int .i64 d.gens) ∧ W.cell? ⟨G, 7, none⟩ = some (.int .i64 c.most) ∧ W.cell? ⟨Z, 0, none⟩ = some (.int .i64 z0) ∧ W.cell? ⟨Z, 1, none⟩ = some (.int .i64 z1) := ⟨u0, u1, u2, u3, u4, u5, u6, u7, e0, e1, e2, e3, e4, e5, e6, e7, ZE.1, ZE.2.1⟩
  have KA : Hid (∀ v : World, Below W.heap.size W v → v.cell? ⟨N, 0, none⟩ = some (.int .i64 c.size) ∧ v.cell? ⟨N, 1, none⟩ = some (.int .i64 c.pages) ∧ v.cell? ⟨N, 2, none⟩ = some (.slice c.ca c.cn c.cc) ∧ v.cell? ⟨N, 3, none⟩ = some (.slice c.ka c.kn c.kc) ∧ v.cell? ⟨N, 4, none⟩ = some (.int .i64 c.step) ∧ v.cell? ⟨N, 5, none⟩ = some (.int .i64 c.slots) ∧ v.cell? ⟨N, 6, none⟩ = some (.int .i64 c.gens) ∧ v.cell? ⟨N, 7, none⟩ = some (.int .i64 c.most) ∧ v.cell? ⟨G, 0, none⟩ = some (.int .i64 c.size) ∧ v.cell? ⟨G, 1, none⟩ = some (.int .i64 d.pages) ∧ v.cell? ⟨G, 2, none⟩ = some (.slice c.ca c.cn c.cc) ∧ v.cell? ⟨G, 3, none⟩ = some (.slice d.ka d.kn d.kc) ∧ v.cell? ⟨G, 4, none⟩ = some (.int .i64 c.step) ∧ v.cell? ⟨G, 5, none⟩ = some (.int .i64 d.slots) ∧ v.cell? ⟨G, 6, none⟩ = some (.int .i64 d.gens) ∧ v.cell? ⟨G, 7, none⟩ = some (.int .i64 c.most) ∧ v.cell? ⟨Z, 0, none⟩ = some (.int .i64 z0) ∧ v.cell? ⟨Z, 1, none⟩ = some (.int .i64 z1)) := Lib.hid fun v hv => by
    refine ⟨?_, ?_, ?_, ?_, ?_, ?_, ?_, ?_, ?_, ?_, ?_, ?_, ?_, ?_, ?_, ?_, ?_, ?_⟩
    all_goals rw [hv.cell (by first | exact u8 | exact e8 | exact ZE.2.2)]
    · exact u0
    · exact u1
    · exact u2
    · exact u3
    · exact u4
    · exact u5
    · exact u6
    · exact u7
    · exact e0
    · exact e1
    · exact e2
    · exact e3
    · exact e4
    · exact e5
    · exact e6
    · exact e7
    · exact ZE.1
    · exact ZE.2.1
  clear u0 u1 u2 u3 u4 u5 u6 u7 u8 e0 e1 e2 e3 e4 e5 e6 e7 e8 ZE kW x0 x1 x2 x3 x4 x5 x6 x7 x8 y1 y3 y5 y6 hN
  have OC := Lib.hid (fun v (hv : Below W.heap.size W v) => OE.on hv)
  have OD := Lib.hid (fun v (hv : Below W.heap.size W v) => (like_ok OE PE).on hv)
  have BW := Lib.hid bE
  clear OE PE bE
  have M1 := refConfMay_any c W (OC.out _ (Below.refl _ _))
  cases hB : confB c with
  | false =>
    rw [confMay_off hB] at M1
    have H := Lib.hid M1
    clear M1 hB
    refine H.out.mono ?_
    rintro e w2 ⟨rfl, f2⟩
    go_wp2
    go_ret
    exact ⟨rfl, belowT BW.out f2⟩
  | true =>
    rw [confMay_on hB] at M1
    have H := Lib.hid M1
    have M := Lib.hid (mayC hB)
    clear M1 hB
    refine H.out.mono ?_
    rintro e w2 ⟨rfl, f2⟩
    have ⟨u0, u1, u2, u3, u4, u5, u6, u7, e0, e1, e2, e3, e4, e5, e6, e7, q0, q1⟩ := KA.out _ f2
    have M2 : Calls Try.prog 6 #[.agg #[.int .i64 c.size, .int .i64 d.pages, .slice c.ca c.cn c.cc, .slice d.ka d.kn d.kc, .int .i64 c.step, .int .i64 d.slots, .int .i64 d.gens, .int .i64 c.most]] w2 (IB (confMay (likeC c d)) w2) := refConfMay_any (likeC c d) w2 (OD.out _ f2)
    cases hE : confB (likeC c d) with
    | false =>
      rw [confMay_off hE] at M2
      have H2 := Lib.hid M2
      clear M2 hE H
      go_wp2_with fail
      refine H2.out.mono ?_
      rintro e w3 ⟨rfl, f3⟩
      have b3 := belowT f2 f3
      go_wp2
      go_ret
      exact ⟨rfl, belowT BW.out b3⟩
    | true =>
      rw [confMay_on hE] at M2
      have H2 := Lib.hid M2
      have ME := Lib.hid (mayC hE)
      clear M2 hE H
      go_wp2_with fail
      refine H2.out.mono ?_
      rintro e w3 ⟨rfl, f3⟩
      have c0 := belowT f2 f3
      clear f2 f3 H2 u0 u1 u2 u3 u4 u5 u6 u7 e0 e1 e2 e3 e4 e5 e6 e7 q0 q1
      have A1 := Lib.hid (fun v (hv : Below W.heap.size W v) => alloc_any (OC.out v hv) M.out hz0)
      have A2 : Hid (∀ v, Below W.heap.size W v → Calls Try.prog 7 #[.agg #[.int .i64 c.size, .int .i64 d.pages, .slice c.ca c.cn c.cc, .slice d.ka d.kn d.kc, .int .i64 c.step, .int .i64 d.slots, .int .i64 d.gens, .int .i64 c.most], .int .i64 z0] v (IB (allocB c z0) v)) := Lib.hid (fun v hv => by have h := alloc_any (OD.out v hv) ME.out hz0; rw [like_alloc] at h; exact h)
      have F1 := Lib.hid (fun v (hv : Below W.heap.size W v) => free_any (OC.out v hv) M.out hz0)
      have F2 : Hid (∀ v, Below W.heap.size W v → Calls Try.prog 9 #[.agg #[.int .i64 c.size, .int .i64 d.pages, .slice c.ca c.cn c.cc, .slice d.ka d.kn d.kc, .int .i64 c.step, .int .i64 d.slots, .int .i64 d.gens, .int .i64 c.most], .int .i64 z0] v (IB (freeB c z0) v)) := Lib.hid (fun v hv => by have h := free_any (OD.out v hv) ME.out hz0; rw [like_free] at h; exact h)
      have R1 := Lib.hid (fun v (hv : Below W.heap.size W v) => read_any (n := z1) (OC.out v hv) M.out hz0)
      have R2 : Hid (∀ v, Below W.heap.size W v → Calls Try.prog 13 #[.agg #[.int .i64 c.size, .int .i64 d.pages, .slice c.ca c.cn c.cc, .slice d.ka d.kn d.kc, .int .i64 c.step, .int .i64 d.slots, .int .i64 d.gens, .int .i64 c.most], .int .i64 z0, .int .i64 z1] v (IB (readB c z0 z1) v)) := Lib.hid (fun v hv => by have h := read_any (n := z1) (OD.out v hv) ME.out hz0; rw [like_read] at h; exact h)
      have V1 := Lib.hid (fun v (hv : Below W.heap.size W v) => write_any (n := z1) (OC.out v hv) M.out hz0)
      have V2 : Hid (∀ v, Below W.heap.size W v → Calls Try.prog 14 #[.agg #[.int .i64 c.size, .int .i64 d.pages, .slice c.ca c.cn c.cc, .slice d.ka d.kn d.kc, .int .i64 c.step, .int .i64 d.slots, .int .i64 d.gens, .int .i64 c.most], .int .i64 z0, .int .i64 z1] v (IB (writeB c z0 z1) v)) := Lib.hid (fun v hv => by have h := write_any (n := z1) (OD.out v hv) ME.out hz0; rw [like_write] at h; exact h)
      have S1 := Lib.hid (fun v (hv : Below W.heap.size W v) => resize_any (OC.out v hv) M.out hz0 hz1)
      have S2 : Hid (∀ v, Below W.heap.size W v → Calls Try.prog 15 #[.agg #[.int .i64 c.size, .int .i64 d.pages, .slice c.ca c.cn c.cc, .slice d.ka d.kn d.kc, .int .i64 c.step, .int .i64 d.slots, .int .i64 d.gens, .int .i64 c.most], .int .i64 z0, .int .i64 z1] v (IB (resizeB c z0 z1) v)) := Lib.hid (fun v hv => by have h := resize_any (OD.out v hv) ME.out hz0 hz1; rw [like_resize] at h; exact h)
      have T1 := Lib.hid (fun v (hv : Below W.heap.size W v) => tick_any (OC.out v hv) M.out)
      have T2 : Hid (∀ v, Below W.heap.size W v → Calls Try.prog 11 #[.agg #[.int .i64 c.size, .int .i64 d.pages, .slice c.ca c.cn c.cc, .slice d.ka d.kn d.kc, .int .i64 c.step, .int .i64 d.slots, .int .i64 d.gens, .int .i64 c.most]] v (IB (tickB c) v)) := Lib.hid (fun v hv => by have h := tick_any (OD.out v hv) ME.out; rw [like_tick] at h; exact h)
      clear OC OD M ME
      generalize allocB c z0 = pa at *
      generalize freeB c z0 = pf at *
      generalize readB c z0 z1 = pr at *
      generalize writeB c z0 z1 = pw at *
      generalize resizeB c z0 z1 = ps at *
      generalize tickB c = pt at *
      have kW := KA.out _ c0
      go_wp2_with fail
      refine wp_region_held_drew (S := fun v => v.cell? ⟨N, 0, none⟩ = some (.int .i64 c.size) ∧ v.cell? ⟨N, 1, none⟩ = some (.int .i64 c.pages) ∧ v.cell? ⟨N, 2, none⟩ = some (.slice c.ca c.cn c.cc) ∧ v.cell? ⟨N, 3, none⟩ = some (.slice c.ka c.kn c.kc) ∧ v.cell? ⟨N, 4, none⟩ = some (.int .i64 c.step) ∧ v.cell? ⟨N, 5, none⟩ = some (.int .i64 c.slots) ∧ v.cell? ⟨N, 6, none⟩ = some (.int .i64 c.gens) ∧ v.cell? ⟨N, 7, none⟩ = some (.int .i64 c.most) ∧ v.cell? ⟨G, 0, none⟩ = some (.int .i64 c.size) ∧ v.cell? ⟨G, 1, none⟩ = some (.int .i64 d.pages) ∧ v.cell? ⟨G, 2, none⟩ = some (.slice c.ca c.cn c.cc) ∧ v.cell? ⟨G, 3, none⟩ = some (.slice d.ka d.kn d.kc) ∧ v.cell? ⟨G, 4, none⟩ = some (.int .i64 c.step) ∧ v.cell? ⟨G, 5, none⟩ = some (.int .i64 d.slots) ∧ v.cell? ⟨G, 6, none⟩ = some (.int .i64 d.gens) ∧ v.cell? ⟨G, 7, none⟩ = some (.int .i64 c.most) ∧ v.cell? ⟨Z, 0, none⟩ = some (.int .i64 z0) ∧ v.cell? ⟨Z, 1, none⟩ = some (.int .i64 z1)) (by kernel_rfl) kW (fun hHeld => ?_)
      clear kW
      have cD : Below W.heap.size W w3.drew := belowD c0
      refine held_on (i := 0) (v := ?_) rfl (by kernel_rfl) (by kernel_rfl) (by kernel_rfl) (fun _ _ _ h => h) ?_ ?_ (by assumption) ?_
      rotate_left 1
      · rfl
      · intro w hSw; (try dsimp only at hSw); go_simp; try with_reducible rfl
      try simp only [Act.put, List.setIfInBounds_toArray, List.set_cons_zero, List.set_cons_succ, List.getElem_toArray, List.getElem_cons_zero]
      refine held_on (i := 1) (v := ?_) rfl (by kernel_rfl) (by kernel_rfl) (by kernel_rfl) (fun _ _ _ h => h) ?_ ?_ (by assumption) ?_
      rotate_left 1
      · rfl
      · intro w hSw; (try dsimp only at hSw); go_simp; try with_reducible rfl
      try simp only [Act.put, List.setIfInBounds_toArray, List.set_cons_zero, List.set_cons_succ, List.getElem_toArray, List.getElem_cons_zero, List.getElem_cons_succ]
      refine held_on (i := 2) (v := ?_) rfl (by kernel_rfl) (by kernel_rfl) (by kernel_rfl) (fun _ _ _ h => h) ?_ ?_ (by assumption) ?_
      rotate_left 1
      · rfl
      · intro w hSw; (try dsimp only at hSw); go_simp; try with_reducible rfl
      try simp only [Act.put, List.setIfInBounds_toArray, List.set_cons_zero, List.set_cons_succ, List.getElem_toArray, List.getElem_cons_zero, List.getElem_cons_succ]
      refine held_on (i := 4) (v := ?_) rfl (by kernel_rfl) (by kernel_rfl) (by kernel_rfl) (fun _ _ _ h => h) ?_ ?_ (by assumption) ?_
      rotate_left 1
      · rfl
      · intro w hSw; (try dsimp only at hSw); go_simp; try with_reducible rfl
      try simp only [Act.put, List.setIfInBounds_toArray, List.set_cons_zero, List.set_cons_succ, List.getElem_toArray, List.getElem_cons_zero, List.getElem_cons_succ]
      refine held_on (i := 5) (v := ?_) rfl (by kernel_rfl) (by kernel_rfl) (by kernel_rfl) (fun _ _ _ h => h) ?_ ?_ (by assumption) ?_
      rotate_left 1
      · rfl
      · intro w hSw; (try dsimp only at hSw); go_simp; try with_reducible rfl
      try simp only [Act.put, List.setIfInBounds_toArray, List.set_cons_zero, List.set_cons_succ, List.getElem_toArray, List.getElem_cons_zero, List.getElem_cons_succ]
      refine held_on (i := 6) (v := ?_) rfl (by kernel_rfl) (by kernel_rfl) (by kernel_rfl) (fun _ _ _ h => h) ?_ ?_ (by assumption) ?_
      rotate_left 1
      · rfl
      · intro w hSw; (try dsimp only at hSw); go_simp; try with_reducible rfl
      try simp only [Act.put, List.setIfInBounds_toArray, List.set_cons_zero, List.set_cons_succ, List.getElem_toArray, List.getElem_cons_zero, List.getElem_cons_succ]
      refine wpAnyH_ready (rs := [3]) (by kernel_rfl) (by simp) ?_
      refine AllReadyH.cons rfl (fun K hK => ?_) AllReadyH.nil
      go_simp
      refine (A1.out _ cD).mono ?_
      rintro e v1 ⟨rfl, g1⟩
      have c1 := belowT cD g1
      refine hK.out _ _ (KA.out _ c1) (fun _ => ?_)
      clear hK K g1 cD
      refine wpAnyH_ready (rs := [7]) (by kernel_rfl) (by simp) ?_
      refine AllReadyH.cons rfl (fun K hK => ?_) AllReadyH.nil
      go_simp
      refine (A2.out _ c1).mono ?_
      rintro e v2 ⟨rfl, g2⟩
      have c2 := belowT c1 g2
      refine hK.out _ _ (KA.out _ c2) (fun _ => ?_)
      clear hK K g2 c1
      refine held_on (i := 8) (v := ?_) rfl (by kernel_rfl) (by kernel_rfl) (by kernel_rfl) (fun _ _ _ h => h) ?_ ?_ (by assumption) ?_
      rotate_left 1
      · rfl
      · intro w hSw; (try dsimp only at hSw); go_simp; try with_reducible rfl
      try simp only [Act.put, List.setIfInBounds_toArray, List.set_cons_zero, List.set_cons_succ, List.getElem_toArray, List.getElem_cons_zero, List.getElem_cons_succ]
      refine held_on (i := 9) (v := ?_) rfl (by kernel_rfl) (by kernel_rfl) (by kernel_rfl) (fun _ _ _ h => h) ?_ ?_ (by assumption) ?_
      rotate_left 1
      · rfl
      · intro w hSw; (try dsimp only at hSw); go_simp; try with_reducible rfl
      try simp only [Act.put, List.setIfInBounds_toArray, List.set_cons_zero, List.set_cons_succ, List.getElem_toArray, List.getElem_cons_zero, List.getElem_cons_succ]
      refine held_on (i := 10) (v := ?_) rfl (by kernel_rfl) (by kernel_rfl) (by kernel_rfl) (fun _ _ _ h => h) ?_ ?_ (by assumption) ?_
      rotate_left 1
      · rfl
      · intro w hSw; (try dsimp only at hSw); go_simp; try with_reducible rfl
      try simp only [Act.put, List.setIfInBounds_toArray, List.set_cons_zero, List.set_cons_succ, List.getElem_toArray, List.getElem_cons_zero, List.getElem_cons_succ]
      refine held_on (i := 11) (v := ?_) rfl (by kernel_rfl) (by kernel_rfl) (by kernel_rfl) (fun _ _ _ h => h) ?_ ?_ (by assumption) ?_
      rotate_left 1
      · rfl
      · intro w hSw; (try dsimp only at hSw); go_simp; try with_reducible rfl
      try simp only [Act.put, List.setIfInBounds_toArray, List.set_cons_zero, List.set_cons_succ, List.getElem_toArray, List.getElem_cons_zero, List.getElem_cons_succ]
      refine held_on (i := 12) (v := ?_) rfl (by kernel_rfl) (by kernel_rfl) (by kernel_rfl) (fun _ _ _ h => h) ?_ ?_ (by assumption) ?_
      rotate_left 1
      · rfl
      · intro w hSw; (try dsimp only at hSw); go_simp; try with_reducible rfl
      try simp only [Act.put, List.setIfInBounds_toArray, List.set_cons_zero, List.set_cons_succ, List.getElem_toArray, List.getElem_cons_zero, List.getElem_cons_succ]
      refine held_on (i := 14) (v := ?_) rfl (by kernel_rfl) (by kernel_rfl) (by kernel_rfl) (fun _ _ _ h => h) ?_ ?_ (by assumption) ?_
      rotate_left 1
      · rfl
      · intro w hSw; (try dsimp only at hSw); go_simp; try with_reducible rfl
      try simp only [Act.put, List.setIfInBounds_toArray, List.set_cons_zero, List.set_cons_succ, List.getElem_toArray, List.getElem_cons_zero, List.getElem_cons_succ]
      refine held_on (i := 15) (v := ?_) rfl (by kernel_rfl) (by kernel_rfl) (by kernel_rfl) (fun _ _ _ h => h) ?_ ?_ (by assumption) ?_
      rotate_left 1
      · rfl
      · intro w hSw; (try dsimp only at hSw); go_simp; try with_reducible rfl
      try simp only [Act.put, List.setIfInBounds_toArray, List.set_cons_zero, List.set_cons_succ, List.getElem_toArray, List.getElem_cons_zero, List.getElem_cons_succ]
      refine held_on (i := 16) (v := ?_) rfl (by kernel_rfl) (by kernel_rfl) (by kernel_rfl) (fun _ _ _ h => h) ?_ ?_ (by assumption) ?_
      rotate_left 1
      · rfl
      · intro w hSw; (try dsimp only at hSw); go_simp; try with_reducible rfl
      try simp only [Act.put, List.setIfInBounds_toArray, List.set_cons_zero, List.set_cons_succ, List.getElem_toArray, List.getElem_cons_zero, List.getElem_cons_succ]
      refine wpAnyH_ready (rs := [13]) (by kernel_rfl) (by simp) ?_
      refine AllReadyH.cons rfl (fun K hK => ?_) AllReadyH.nil
      go_simp
      refine (F1.out _ c2).mono ?_
      rintro e v3 ⟨rfl, g3⟩
      have c3 := belowT c2 g3
      refine hK.out _ _ (KA.out _ c3) (fun _ => ?_)
      clear hK K g3 c2
      refine wpAnyH_ready (rs := [17]) (by kernel_rfl) (by simp) ?_
      refine AllReadyH.cons rfl (fun K hK => ?_) AllReadyH.nil
      go_simp
      refine (F2.out _ c3).mono ?_
      rintro e v4 ⟨rfl, g4⟩
      have c4 := belowT c3 g4
      refine hK.out _ _ (KA.out _ c4) (fun _ => ?_)
      clear hK K g4 c3
      refine held_on (i := 18) (v := ?_) rfl (by kernel_rfl) (by kernel_rfl) (by kernel_rfl) (fun _ _ _ h => h) ?_ ?_ (by assumption) ?_
      rotate_left 1
      · rfl
      · intro w hSw; (try dsimp only at hSw); go_simp; try with_reducible rfl
      try simp only [Act.put, List.setIfInBounds_toArray, List.set_cons_zero, List.set_cons_succ, List.getElem_toArray, List.getElem_cons_zero, List.getElem_cons_succ]
      refine held_on (i := 19) (v := ?_) rfl (by kernel_rfl) (by kernel_rfl) (by kernel_rfl) (fun _ _ _ h => h) ?_ ?_ (by assumption) ?_
      rotate_left 1
      · rfl
      · intro w hSw; (try dsimp only at hSw); go_simp; try with_reducible rfl
      try simp only [Act.put, List.setIfInBounds_toArray, List.set_cons_zero, List.set_cons_succ, List.getElem_toArray, List.getElem_cons_zero, List.getElem_cons_succ]
      refine held_on (i := 20) (v := ?_) rfl (by kernel_rfl) (by kernel_rfl) (by kernel_rfl) (fun _ _ _ h => h) ?_ ?_ (by assumption) ?_
      rotate_left 1
      · rfl
      · intro w hSw; (try dsimp only at hSw); go_simp; try with_reducible rfl
      try simp only [Act.put, List.setIfInBounds_toArray, List.set_cons_zero, List.set_cons_succ, List.getElem_toArray, List.getElem_cons_zero, List.getElem_cons_succ]
      refine wpAnyH_done (by kernel_rfl) ?_ _
      clear A1 A2 F1 F2 c0
      have c0 := c4
      clear c4
      have kW := KA.out _ c0
      go_wp2_with fail
      refine wp_region_held_drew (S := fun v => v.cell? ⟨N, 0, none⟩ = some (.int .i64 c.size) ∧ v.cell? ⟨N, 1, none⟩ = some (.int .i64 c.pages) ∧ v.cell? ⟨N, 2, none⟩ = some (.slice c.ca c.cn c.cc) ∧ v.cell? ⟨N, 3, none⟩ = some (.slice c.ka c.kn c.kc) ∧ v.cell? ⟨N, 4, none⟩ = some (.int .i64 c.step) ∧ v.cell? ⟨N, 5, none⟩ = some (.int .i64 c.slots) ∧ v.cell? ⟨N, 6, none⟩ = some (.int .i64 c.gens) ∧ v.cell? ⟨N, 7, none⟩ = some (.int .i64 c.most) ∧ v.cell? ⟨G, 0, none⟩ = some (.int .i64 c.size) ∧ v.cell? ⟨G, 1, none⟩ = some (.int .i64 d.pages) ∧ v.cell? ⟨G, 2, none⟩ = some (.slice c.ca c.cn c.cc) ∧ v.cell? ⟨G, 3, none⟩ = some (.slice d.ka d.kn d.kc) ∧ v.cell? ⟨G, 4, none⟩ = some (.int .i64 c.step) ∧ v.cell? ⟨G, 5, none⟩ = some (.int .i64 d.slots) ∧ v.cell? ⟨G, 6, none⟩ = some (.int .i64 d.gens) ∧ v.cell? ⟨G, 7, none⟩ = some (.int .i64 c.most) ∧ v.cell? ⟨Z, 0, none⟩ = some (.int .i64 z0) ∧ v.cell? ⟨Z, 1, none⟩ = some (.int .i64 z1)) (by kernel_rfl) kW (fun hHeld => ?_)
      clear kW
      have cD : Below W.heap.size W v4.drew := belowD c0
      refine held_on (i := 0) (v := ?_) rfl (by kernel_rfl) (by kernel_rfl) (by kernel_rfl) (fun _ _ _ h => h) ?_ ?_ (by assumption) ?_
      rotate_left 1
      · rfl
      · intro w hSw; (try dsimp only at hSw); go_simp; try with_reducible rfl
      try simp only [Act.put, List.setIfInBounds_toArray, List.set_cons_zero, List.set_cons_succ, List.getElem_toArray, List.getElem_cons_zero]
      refine held_on (i := 1) (v := ?_) rfl (by kernel_rfl) (by kernel_rfl) (by kernel_rfl) (fun _ _ _ h => h) ?_ ?_ (by assumption) ?_
      rotate_left 1
      · rfl
      · intro w hSw; (try dsimp only at hSw); go_simp; try with_reducible rfl
      try simp only [Act.put, List.setIfInBounds_toArray, List.set_cons_zero, List.set_cons_succ, List.getElem_toArray, List.getElem_cons_zero, List.getElem_cons_succ]
      refine held_on (i := 2) (v := ?_) rfl (by kernel_rfl) (by kernel_rfl) (by kernel_rfl) (fun _ _ _ h => h) ?_ ?_ (by assumption) ?_
      rotate_left 1
      · rfl
      · intro w hSw; (try dsimp only at hSw); go_simp; try with_reducible rfl
      try simp only [Act.put, List.setIfInBounds_toArray, List.set_cons_zero, List.set_cons_succ, List.getElem_toArray, List.getElem_cons_zero, List.getElem_cons_succ]
      refine held_on (i := 3) (v := ?_) rfl (by kernel_rfl) (by kernel_rfl) (by kernel_rfl) (fun _ _ _ h => h) ?_ ?_ (by assumption) ?_
      rotate_left 1
      · rfl
      · intro w hSw; (try dsimp only at hSw); go_simp; try with_reducible rfl
      try simp only [Act.put, List.setIfInBounds_toArray, List.set_cons_zero, List.set_cons_succ, List.getElem_toArray, List.getElem_cons_zero, List.getElem_cons_succ]
      refine held_on (i := 4) (v := ?_) rfl (by kernel_rfl) (by kernel_rfl) (by kernel_rfl) (fun _ _ _ h => h) ?_ ?_ (by assumption) ?_
      rotate_left 1
      · rfl
      · intro w hSw; (try dsimp only at hSw); go_simp; try with_reducible rfl
      try simp only [Act.put, List.setIfInBounds_toArray, List.set_cons_zero, List.set_cons_succ, List.getElem_toArray, List.getElem_cons_zero, List.getElem_cons_succ]
      refine held_on (i := 6) (v := ?_) rfl (by kernel_rfl) (by kernel_rfl) (by kernel_rfl) (fun _ _ _ h => h) ?_ ?_ (by assumption) ?_
      rotate_left 1
      · rfl
      · intro w hSw; (try dsimp only at hSw); go_simp; try with_reducible rfl
      try simp only [Act.put, List.setIfInBounds_toArray, List.set_cons_zero, List.set_cons_succ, List.getElem_toArray, List.getElem_cons_zero, List.getElem_cons_succ]
      refine held_on (i := 7) (v := ?_) rfl (by kernel_rfl) (by kernel_rfl) (by kernel_rfl) (fun _ _ _ h => h) ?_ ?_ (by assumption) ?_
      rotate_left 1
      · rfl
      · intro w hSw; (try dsimp only at hSw); go_simp; try with_reducible rfl
      try simp only [Act.put, List.setIfInBounds_toArray, List.set_cons_zero, List.set_cons_succ, List.getElem_toArray, List.getElem_cons_zero, List.getElem_cons_succ]
      refine held_on (i := 8) (v := ?_) rfl (by kernel_rfl) (by kernel_rfl) (by kernel_rfl) (fun _ _ _ h => h) ?_ ?_ (by assumption) ?_
      rotate_left 1
      · rfl
      · intro w hSw; (try dsimp only at hSw); go_simp; try with_reducible rfl
      try simp only [Act.put, List.setIfInBounds_toArray, List.set_cons_zero, List.set_cons_succ, List.getElem_toArray, List.getElem_cons_zero, List.getElem_cons_succ]
      refine held_on (i := 9) (v := ?_) rfl (by kernel_rfl) (by kernel_rfl) (by kernel_rfl) (fun _ _ _ h => h) ?_ ?_ (by assumption) ?_
      rotate_left 1
      · rfl
      · intro w hSw; (try dsimp only at hSw); go_simp; try with_reducible rfl
      try simp only [Act.put, List.setIfInBounds_toArray, List.set_cons_zero, List.set_cons_succ, List.getElem_toArray, List.getElem_cons_zero, List.getElem_cons_succ]
      refine held_on (i := 10) (v := ?_) rfl (by kernel_rfl) (by kernel_rfl) (by kernel_rfl) (fun _ _ _ h => h) ?_ ?_ (by assumption) ?_
      rotate_left 1
      · rfl
      · intro w hSw; (try dsimp only at hSw); go_simp; try with_reducible rfl
      try simp only [Act.put, List.setIfInBounds_toArray, List.set_cons_zero, List.set_cons_succ, List.getElem_toArray, List.getElem_cons_zero, List.getElem_cons_succ]
      refine wpAnyH_ready (rs := [5]) (by kernel_rfl) (by simp) ?_
      refine AllReadyH.cons rfl (fun K hK => ?_) AllReadyH.nil
      go_simp
      refine (R1.out _ cD).mono ?_
      rintro e u1 ⟨rfl, g1⟩
      have c1 := belowT cD g1
      refine hK.out _ _ (KA.out _ c1) (fun _ => ?_)
      clear hK K g1 cD
      refine wpAnyH_ready (rs := [11]) (by kernel_rfl) (by simp) ?_
      refine AllReadyH.cons rfl (fun K hK => ?_) AllReadyH.nil
      go_simp
      refine (R2.out _ c1).mono ?_
      rintro e u2 ⟨rfl, g2⟩
      have c2 := belowT c1 g2
      refine hK.out _ _ (KA.out _ c2) (fun _ => ?_)
      clear hK K g2 c1
      refine held_on (i := 12) (v := ?_) rfl (by kernel_rfl) (by kernel_rfl) (by kernel_rfl) (fun _ _ _ h => h) ?_ ?_ (by assumption) ?_
      rotate_left 1
      · rfl
      · intro w hSw; (try dsimp only at hSw); go_simp; try with_reducible rfl
      try simp only [Act.put, List.setIfInBounds_toArray, List.set_cons_zero, List.set_cons_succ, List.getElem_toArray, List.getElem_cons_zero, List.getElem_cons_succ]
      refine held_on (i := 13) (v := ?_) rfl (by kernel_rfl) (by kernel_rfl) (by kernel_rfl) (fun _ _ _ h => h) ?_ ?_ (by assumption) ?_
      rotate_left 1
      · rfl
      · intro w hSw; (try dsimp only at hSw); go_simp; try with_reducible rfl
      try simp only [Act.put, List.setIfInBounds_toArray, List.set_cons_zero, List.set_cons_succ, List.getElem_toArray, List.getElem_cons_zero, List.getElem_cons_succ]
      refine held_on (i := 14) (v := ?_) rfl (by kernel_rfl) (by kernel_rfl) (by kernel_rfl) (fun _ _ _ h => h) ?_ ?_ (by assumption) ?_
      rotate_left 1
      · rfl
      · intro w hSw; (try dsimp only at hSw); go_simp; try with_reducible rfl
      try simp only [Act.put, List.setIfInBounds_toArray, List.set_cons_zero, List.set_cons_succ, List.getElem_toArray, List.getElem_cons_zero, List.getElem_cons_succ]
      refine held_on (i := 15) (v := ?_) rfl (by kernel_rfl) (by kernel_rfl) (by kernel_rfl) (fun _ _ _ h => h) ?_ ?_ (by assumption) ?_
      rotate_left 1
      · rfl
      · intro w hSw; (try dsimp only at hSw); go_simp; try with_reducible rfl
      try simp only [Act.put, List.setIfInBounds_toArray, List.set_cons_zero, List.set_cons_succ, List.getElem_toArray, List.getElem_cons_zero, List.getElem_cons_succ]
      refine held_on (i := 16) (v := ?_) rfl (by kernel_rfl) (by kernel_rfl) (by kernel_rfl) (fun _ _ _ h => h) ?_ ?_ (by assumption) ?_
      rotate_left 1
      · rfl
      · intro w hSw; (try dsimp only at hSw); go_simp; try with_reducible rfl
      try simp only [Act.put, List.setIfInBounds_toArray, List.set_cons_zero, List.set_cons_succ, List.getElem_toArray, List.getElem_cons_zero, List.getElem_cons_succ]
      refine held_on (i := 17) (v := ?_) rfl (by kernel_rfl) (by kernel_rfl) (by kernel_rfl) (fun _ _ _ h => h) ?_ ?_ (by assumption) ?_
      rotate_left 1
      · rfl
      · intro w hSw; (try dsimp only at hSw); go_simp; try with_reducible rfl
      try simp only [Act.put, List.setIfInBounds_toArray, List.set_cons_zero, List.set_cons_succ, List.getElem_toArray, List.getElem_cons_zero, List.getElem_cons_succ]
      refine held_on (i := 18) (v := ?_) rfl (by kernel_rfl) (by kernel_rfl) (by kernel_rfl) (fun _ _ _ h => h) ?_ ?_ (by assumption) ?_
      rotate_left 1
      · rfl
      · intro w hSw; (try dsimp only at hSw); go_simp; try with_reducible rfl
      try simp only [Act.put, List.setIfInBounds_toArray, List.set_cons_zero, List.set_cons_succ, List.getElem_toArray, List.getElem_cons_zero, List.getElem_cons_succ]
      refine held_on (i := 20) (v := ?_) rfl (by kernel_rfl) (by kernel_rfl) (by kernel_rfl) (fun _ _ _ h => h) ?_ ?_ (by assumption) ?_
      rotate_left 1
      · rfl
      · intro w hSw; (try dsimp only at hSw); go_simp; try with_reducible rfl
      try simp only [Act.put, List.setIfInBounds_toArray, List.set_cons_zero, List.set_cons_succ, List.getElem_toArray, List.getElem_cons_zero, List.getElem_cons_succ]
      refine held_on (i := 21) (v := ?_) rfl (by kernel_rfl) (by kernel_rfl) (by kernel_rfl) (fun _ _ _ h => h) ?_ ?_ (by assumption) ?_
      rotate_left 1
      · rfl
      · intro w hSw; (try dsimp only at hSw); go_simp; try with_reducible rfl
      try simp only [Act.put, List.setIfInBounds_toArray, List.set_cons_zero, List.set_cons_succ, List.getElem_toArray, List.getElem_cons_zero, List.getElem_cons_succ]
      refine held_on (i := 22) (v := ?_) rfl (by kernel_rfl) (by kernel_rfl) (by kernel_rfl) (fun _ _ _ h => h) ?_ ?_ (by assumption) ?_
      rotate_left 1
      · rfl
      · intro w hSw; (try dsimp only at hSw); go_simp; try with_reducible rfl
      try simp only [Act.put, List.setIfInBounds_toArray, List.set_cons_zero, List.set_cons_succ, List.getElem_toArray, List.getElem_cons_zero, List.getElem_cons_succ]
      refine held_on (i := 23) (v := ?_) rfl (by kernel_rfl) (by kernel_rfl) (by kernel_rfl) (fun _ _ _ h => h) ?_ ?_ (by assumption) ?_
      rotate_left 1
      · rfl
      · intro w hSw; (try dsimp only at hSw); go_simp; try with_reducible rfl
      try simp only [Act.put, List.setIfInBounds_toArray, List.set_cons_zero, List.set_cons_succ, List.getElem_toArray, List.getElem_cons_zero, List.getElem_cons_succ]
      refine held_on (i := 24) (v := ?_) rfl (by kernel_rfl) (by kernel_rfl) (by kernel_rfl) (fun _ _ _ h => h) ?_ ?_ (by assumption) ?_
      rotate_left 1
      · rfl
      · intro w hSw; (try dsimp only at hSw); go_simp; try with_reducible rfl
      try simp only [Act.put, List.setIfInBounds_toArray, List.set_cons_zero, List.set_cons_succ, List.getElem_toArray, List.getElem_cons_zero, List.getElem_cons_succ]
      refine wpAnyH_ready (rs := [19]) (by kernel_rfl) (by simp) ?_
      refine AllReadyH.cons rfl (fun K hK => ?_) AllReadyH.nil
      go_simp
      refine (V1.out _ c2).mono ?_
      rintro e u3 ⟨rfl, g3⟩
      have c3 := belowT c2 g3
      refine hK.out _ _ (KA.out _ c3) (fun _ => ?_)
      clear hK K g3 c2
      refine wpAnyH_ready (rs := [25]) (by kernel_rfl) (by simp) ?_
      refine AllReadyH.cons rfl (fun K hK => ?_) AllReadyH.nil
      go_simp
      refine (V2.out _ c3).mono ?_
      rintro e u4 ⟨rfl, g4⟩
      have c4 := belowT c3 g4
      refine hK.out _ _ (KA.out _ c4) (fun _ => ?_)
      clear hK K g4 c3
      refine held_on (i := 26) (v := ?_) rfl (by kernel_rfl) (by kernel_rfl) (by kernel_rfl) (fun _ _ _ h => h) ?_ ?_ (by assumption) ?_
      rotate_left 1
      · rfl
      · intro w hSw; (try dsimp only at hSw); go_simp; try with_reducible rfl
      try simp only [Act.put, List.setIfInBounds_toArray, List.set_cons_zero, List.set_cons_succ, List.getElem_toArray, List.getElem_cons_zero, List.getElem_cons_succ]
      refine held_on (i := 27) (v := ?_) rfl (by kernel_rfl) (by kernel_rfl) (by kernel_rfl) (fun _ _ _ h => h) ?_ ?_ (by assumption) ?_
      rotate_left 1
      · rfl
      · intro w hSw; (try dsimp only at hSw); go_simp; try with_reducible rfl
      try simp only [Act.put, List.setIfInBounds_toArray, List.set_cons_zero, List.set_cons_succ, List.getElem_toArray, List.getElem_cons_zero, List.getElem_cons_succ]
      refine held_on (i := 28) (v := ?_) rfl (by kernel_rfl) (by kernel_rfl) (by kernel_rfl) (fun _ _ _ h => h) ?_ ?_ (by assumption) ?_
      rotate_left 1
      · rfl
      · intro w hSw; (try dsimp only at hSw); go_simp; try with_reducible rfl
      try simp only [Act.put, List.setIfInBounds_toArray, List.set_cons_zero, List.set_cons_succ, List.getElem_toArray, List.getElem_cons_zero, List.getElem_cons_succ]
      refine wpAnyH_done (by kernel_rfl) ?_ _
      clear R1 R2 V1 V2 c0
      have c0 := c4
      clear c4
      have kW := KA.out _ c0
      go_wp2_with fail
      refine wp_region_held_drew (S := fun v => v.cell? ⟨N, 0, none⟩ = some (.int .i64 c.size) ∧ v.cell? ⟨N, 1, none⟩ = some (.int .i64 c.pages) ∧ v.cell? ⟨N, 2, none⟩ = some (.slice c.ca c.cn c.cc) ∧ v.cell? ⟨N, 3, none⟩ = some (.slice c.ka c.kn c.kc) ∧ v.cell? ⟨N, 4, none⟩ = some (.int .i64 c.step) ∧ v.cell? ⟨N, 5, none⟩ = some (.int .i64 c.slots) ∧ v.cell? ⟨N, 6, none⟩ = some (.int .i64 c.gens) ∧ v.cell? ⟨N, 7, none⟩ = some (.int .i64 c.most) ∧ v.cell? ⟨G, 0, none⟩ = some (.int .i64 c.size) ∧ v.cell? ⟨G, 1, none⟩ = some (.int .i64 d.pages) ∧ v.cell? ⟨G, 2, none⟩ = some (.slice c.ca c.cn c.cc) ∧ v.cell? ⟨G, 3, none⟩ = some (.slice d.ka d.kn d.kc) ∧ v.cell? ⟨G, 4, none⟩ = some (.int .i64 c.step) ∧ v.cell? ⟨G, 5, none⟩ = some (.int .i64 d.slots) ∧ v.cell? ⟨G, 6, none⟩ = some (.int .i64 d.gens) ∧ v.cell? ⟨G, 7, none⟩ = some (.int .i64 c.most) ∧ v.cell? ⟨Z, 0, none⟩ = some (.int .i64 z0) ∧ v.cell? ⟨Z, 1, none⟩ = some (.int .i64 z1)) (by kernel_rfl) kW (fun hHeld => ?_)
      clear kW
      have cD : Below W.heap.size W u4.drew := belowD c0
      refine held_on (i := 0) (v := ?_) rfl (by kernel_rfl) (by kernel_rfl) (by kernel_rfl) (fun _ _ _ h => h) ?_ ?_ (by assumption) ?_
      rotate_left 1
      · rfl
      · intro w hSw; (try dsimp only at hSw); go_simp; try with_reducible rfl
      try simp only [Act.put, List.setIfInBounds_toArray, List.set_cons_zero, List.set_cons_succ, List.getElem_toArray, List.getElem_cons_zero]
      refine held_on (i := 1) (v := ?_) rfl (by kernel_rfl) (by kernel_rfl) (by kernel_rfl) (fun _ _ _ h => h) ?_ ?_ (by assumption) ?_
      rotate_left 1
      · rfl
      · intro w hSw; (try dsimp only at hSw); go_simp; try with_reducible rfl
      try simp only [Act.put, List.setIfInBounds_toArray, List.set_cons_zero, List.set_cons_succ, List.getElem_toArray, List.getElem_cons_zero, List.getElem_cons_succ]
      refine held_on (i := 2) (v := ?_) rfl (by kernel_rfl) (by kernel_rfl) (by kernel_rfl) (fun _ _ _ h => h) ?_ ?_ (by assumption) ?_
      rotate_left 1
      · rfl
      · intro w hSw; (try dsimp only at hSw); go_simp; try with_reducible rfl
      try simp only [Act.put, List.setIfInBounds_toArray, List.set_cons_zero, List.set_cons_succ, List.getElem_toArray, List.getElem_cons_zero, List.getElem_cons_succ]
      refine held_on (i := 3) (v := ?_) rfl (by kernel_rfl) (by kernel_rfl) (by kernel_rfl) (fun _ _ _ h => h) ?_ ?_ (by assumption) ?_
      rotate_left 1
      · rfl
      · intro w hSw; (try dsimp only at hSw); go_simp; try with_reducible rfl
      try simp only [Act.put, List.setIfInBounds_toArray, List.set_cons_zero, List.set_cons_succ, List.getElem_toArray, List.getElem_cons_zero, List.getElem_cons_succ]
      refine held_on (i := 4) (v := ?_) rfl (by kernel_rfl) (by kernel_rfl) (by kernel_rfl) (fun _ _ _ h => h) ?_ ?_ (by assumption) ?_
      rotate_left 1
      · rfl
      · intro w hSw; (try dsimp only at hSw); go_simp; try with_reducible rfl
      try simp only [Act.put, List.setIfInBounds_toArray, List.set_cons_zero, List.set_cons_succ, List.getElem_toArray, List.getElem_cons_zero, List.getElem_cons_succ]
      refine held_on (i := 5) (v := ?_) rfl (by kernel_rfl) (by kernel_rfl) (by kernel_rfl) (fun _ _ _ h => h) ?_ ?_ (by assumption) ?_
      rotate_left 1
      · rfl
      · intro w hSw; (try dsimp only at hSw); go_simp; try with_reducible rfl
      try simp only [Act.put, List.setIfInBounds_toArray, List.set_cons_zero, List.set_cons_succ, List.getElem_toArray, List.getElem_cons_zero, List.getElem_cons_succ]
      refine held_on (i := 6) (v := ?_) rfl (by kernel_rfl) (by kernel_rfl) (by kernel_rfl) (fun _ _ _ h => h) ?_ ?_ (by assumption) ?_
      rotate_left 1
      · rfl
      · intro w hSw; (try dsimp only at hSw); go_simp; try with_reducible rfl
      try simp only [Act.put, List.setIfInBounds_toArray, List.set_cons_zero, List.set_cons_succ, List.getElem_toArray, List.getElem_cons_zero, List.getElem_cons_succ]
      refine held_on (i := 7) (v := ?_) rfl (by kernel_rfl) (by kernel_rfl) (by kernel_rfl) (fun _ _ _ h => h) ?_ ?_ (by assumption) ?_
      rotate_left 1
      · rfl
      · intro w hSw; (try dsimp only at hSw); go_simp; try with_reducible rfl
      try simp only [Act.put, List.setIfInBounds_toArray, List.set_cons_zero, List.set_cons_succ, List.getElem_toArray, List.getElem_cons_zero, List.getElem_cons_succ]
      refine held_on (i := 8) (v := ?_) rfl (by kernel_rfl) (by kernel_rfl) (by kernel_rfl) (fun _ _ _ h => h) ?_ ?_ (by assumption) ?_
      rotate_left 1
      · rfl
      · intro w hSw; (try dsimp only at hSw); go_simp; try with_reducible rfl
      try simp only [Act.put, List.setIfInBounds_toArray, List.set_cons_zero, List.set_cons_succ, List.getElem_toArray, List.getElem_cons_zero, List.getElem_cons_succ]
      refine held_on (i := 9) (v := ?_) rfl (by kernel_rfl) (by kernel_rfl) (by kernel_rfl) (fun _ _ _ h => h) ?_ ?_ (by assumption) ?_
      rotate_left 1
      · rfl
      · intro w hSw; (try dsimp only at hSw); go_simp; try with_reducible rfl
      try simp only [Act.put, List.setIfInBounds_toArray, List.set_cons_zero, List.set_cons_succ, List.getElem_toArray, List.getElem_cons_zero, List.getElem_cons_succ]
      refine held_on (i := 10) (v := ?_) rfl (by kernel_rfl) (by kernel_rfl) (by kernel_rfl) (fun _ _ _ h => h) ?_ ?_ (by assumption) ?_
      rotate_left 1
      · rfl
      · intro w hSw; (try dsimp only at hSw); go_simp; try with_reducible rfl
      try simp only [Act.put, List.setIfInBounds_toArray, List.set_cons_zero, List.set_cons_succ, List.getElem_toArray, List.getElem_cons_zero, List.getElem_cons_succ]
      refine held_on (i := 11) (v := ?_) rfl (by kernel_rfl) (by kernel_rfl) (by kernel_rfl) (fun _ _ _ h => h) ?_ ?_ (by assumption) ?_
      rotate_left 1
      · rfl
      · intro w hSw; (try dsimp only at hSw); go_simp; try with_reducible rfl
      try simp only [Act.put, List.setIfInBounds_toArray, List.set_cons_zero, List.set_cons_succ, List.getElem_toArray, List.getElem_cons_zero, List.getElem_cons_succ]
      refine held_on (i := 12) (v := ?_) rfl (by kernel_rfl) (by kernel_rfl) (by kernel_rfl) (fun _ _ _ h => h) ?_ ?_ (by assumption) ?_
      rotate_left 1
      · rfl
      · intro w hSw; (try dsimp only at hSw); go_simp; try with_reducible rfl
      try simp only [Act.put, List.setIfInBounds_toArray, List.set_cons_zero, List.set_cons_succ, List.getElem_toArray, List.getElem_cons_zero, List.getElem_cons_succ]
      refine held_on (i := 14) (v := ?_) rfl (by kernel_rfl) (by kernel_rfl) (by kernel_rfl) (fun _ _ _ h => h) ?_ ?_ (by assumption) ?_
      rotate_left 1
      · rfl
      · intro w hSw; (try dsimp only at hSw); go_simp; try with_reducible rfl
      try simp only [Act.put, List.setIfInBounds_toArray, List.set_cons_zero, List.set_cons_succ, List.getElem_toArray, List.getElem_cons_zero, List.getElem_cons_succ]
      refine held_on (i := 15) (v := ?_) rfl (by kernel_rfl) (by kernel_rfl) (by kernel_rfl) (fun _ _ _ h => h) ?_ ?_ (by assumption) ?_
      rotate_left 1
      · rfl
      · intro w hSw; (try dsimp only at hSw); go_simp; try with_reducible rfl
      try simp only [Act.put, List.setIfInBounds_toArray, List.set_cons_zero, List.set_cons_succ, List.getElem_toArray, List.getElem_cons_zero, List.getElem_cons_succ]
      refine held_on (i := 16) (v := ?_) rfl (by kernel_rfl) (by kernel_rfl) (by kernel_rfl) (fun _ _ _ h => h) ?_ ?_ (by assumption) ?_
      rotate_left 1
      · rfl
      · intro w hSw; (try dsimp only at hSw); go_simp; try with_reducible rfl
      try simp only [Act.put, List.setIfInBounds_toArray, List.set_cons_zero, List.set_cons_succ, List.getElem_toArray, List.getElem_cons_zero, List.getElem_cons_succ]
      refine held_on (i := 17) (v := ?_) rfl (by kernel_rfl) (by kernel_rfl) (by kernel_rfl) (fun _ _ _ h => h) ?_ ?_ (by assumption) ?_
      rotate_left 1
      · rfl
      · intro w hSw; (try dsimp only at hSw); go_simp; try with_reducible rfl
      try simp only [Act.put, List.setIfInBounds_toArray, List.set_cons_zero, List.set_cons_succ, List.getElem_toArray, List.getElem_cons_zero, List.getElem_cons_succ]
      refine held_on (i := 18) (v := ?_) rfl (by kernel_rfl) (by kernel_rfl) (by kernel_rfl) (fun _ _ _ h => h) ?_ ?_ (by assumption) ?_
      rotate_left 1
      · rfl
      · intro w hSw; (try dsimp only at hSw); go_simp; try with_reducible rfl
      try simp only [Act.put, List.setIfInBounds_toArray, List.set_cons_zero, List.set_cons_succ, List.getElem_toArray, List.getElem_cons_zero, List.getElem_cons_succ]
      refine wpAnyH_ready (rs := [13]) (by kernel_rfl) (by simp) ?_
      refine AllReadyH.cons rfl (fun K hK => ?_) AllReadyH.nil
      go_simp
      refine (S1.out _ cD).mono ?_
      rintro e v1 ⟨rfl, g1⟩
      have c1 := belowT cD g1
      refine hK.out _ _ (KA.out _ c1) (fun _ => ?_)
      clear hK K g1 cD
      refine wpAnyH_ready (rs := [19]) (by kernel_rfl) (by simp) ?_
      refine AllReadyH.cons rfl (fun K hK => ?_) AllReadyH.nil
      go_simp
      refine (S2.out _ c1).mono ?_
      rintro e v2 ⟨rfl, g2⟩
      have c2 := belowT c1 g2
      refine hK.out _ _ (KA.out _ c2) (fun _ => ?_)
      clear hK K g2 c1
      refine held_on (i := 20) (v := ?_) rfl (by kernel_rfl) (by kernel_rfl) (by kernel_rfl) (fun _ _ _ h => h) ?_ ?_ (by assumption) ?_
      rotate_left 1
      · rfl
      · intro w hSw; (try dsimp only at hSw); go_simp; try with_reducible rfl
      try simp only [Act.put, List.setIfInBounds_toArray, List.set_cons_zero, List.set_cons_succ, List.getElem_toArray, List.getElem_cons_zero, List.getElem_cons_succ]
      refine held_on (i := 21) (v := ?_) rfl (by kernel_rfl) (by kernel_rfl) (by kernel_rfl) (fun _ _ _ h => h) ?_ ?_ (by assumption) ?_
      rotate_left 1
      · rfl
      · intro w hSw; (try dsimp only at hSw); go_simp; try with_reducible rfl
      try simp only [Act.put, List.setIfInBounds_toArray, List.set_cons_zero, List.set_cons_succ, List.getElem_toArray, List.getElem_cons_zero, List.getElem_cons_succ]
      refine held_on (i := 22) (v := ?_) rfl (by kernel_rfl) (by kernel_rfl) (by kernel_rfl) (fun _ _ _ h => h) ?_ ?_ (by assumption) ?_
      rotate_left 1
      · rfl
      · intro w hSw; (try dsimp only at hSw); go_simp; try with_reducible rfl
      try simp only [Act.put, List.setIfInBounds_toArray, List.set_cons_zero, List.set_cons_succ, List.getElem_toArray, List.getElem_cons_zero, List.getElem_cons_succ]
      refine held_on (i := 23) (v := ?_) rfl (by kernel_rfl) (by kernel_rfl) (by kernel_rfl) (fun _ _ _ h => h) ?_ ?_ (by assumption) ?_
      rotate_left 1
      · rfl
      · intro w hSw; (try dsimp only at hSw); go_simp; try with_reducible rfl
      try simp only [Act.put, List.setIfInBounds_toArray, List.set_cons_zero, List.set_cons_succ, List.getElem_toArray, List.getElem_cons_zero, List.getElem_cons_succ]
      refine held_on (i := 25) (v := ?_) rfl (by kernel_rfl) (by kernel_rfl) (by kernel_rfl) (fun _ _ _ h => h) ?_ ?_ (by assumption) ?_
      rotate_left 1
      · rfl
      · intro w hSw; (try dsimp only at hSw); go_simp; try with_reducible rfl
      try simp only [Act.put, List.setIfInBounds_toArray, List.set_cons_zero, List.set_cons_succ, List.getElem_toArray, List.getElem_cons_zero, List.getElem_cons_succ]
      refine wpAnyH_ready (rs := [24]) (by kernel_rfl) (by simp) ?_
      refine AllReadyH.cons rfl (fun K hK => ?_) AllReadyH.nil
      go_simp
      refine (T1.out _ c2).mono ?_
      rintro e v3 ⟨rfl, g3⟩
      have c3 := belowT c2 g3
      refine hK.out _ _ (KA.out _ c3) (fun _ => ?_)
      clear hK K g3 c2
      refine wpAnyH_ready (rs := [26]) (by kernel_rfl) (by simp) ?_
      refine AllReadyH.cons rfl (fun K hK => ?_) AllReadyH.nil
      go_simp
      refine (T2.out _ c3).mono ?_
      rintro e v4 ⟨rfl, g4⟩
      have c4 := belowT c3 g4
      refine hK.out _ _ (KA.out _ c4) (fun _ => ?_)
      clear hK K g4 c3
      refine held_on (i := 27) (v := ?_) rfl (by kernel_rfl) (by kernel_rfl) (by kernel_rfl) (fun _ _ _ h => h) ?_ ?_ (by assumption) ?_
      rotate_left 1
      · rfl
      · intro w hSw; (try dsimp only at hSw); go_simp; try with_reducible rfl
      try simp only [Act.put, List.setIfInBounds_toArray, List.set_cons_zero, List.set_cons_succ, List.getElem_toArray, List.getElem_cons_zero, List.getElem_cons_succ]
      refine held_on (i := 28) (v := ?_) rfl (by kernel_rfl) (by kernel_rfl) (by kernel_rfl) (fun _ _ _ h => h) ?_ ?_ (by assumption) ?_
      rotate_left 1
      · rfl
      · intro w hSw; (try dsimp only at hSw); go_simp; try with_reducible rfl
      try simp only [Act.put, List.setIfInBounds_toArray, List.set_cons_zero, List.set_cons_succ, List.getElem_toArray, List.getElem_cons_zero, List.getElem_cons_succ]
      refine held_on (i := 29) (v := ?_) rfl (by kernel_rfl) (by kernel_rfl) (by kernel_rfl) (fun _ _ _ h => h) ?_ ?_ (by assumption) ?_
      rotate_left 1
      · rfl
      · intro w hSw; (try dsimp only at hSw); go_simp; try with_reducible rfl
      try simp only [Act.put, List.setIfInBounds_toArray, List.set_cons_zero, List.set_cons_succ, List.getElem_toArray, List.getElem_cons_zero, List.getElem_cons_succ]
      refine wpAnyH_done (by kernel_rfl) ?_ _
      have BF := Lib.hid (belowT BW.out c4)
      clear c4 S1 S2 T1 T2 c0
      go_wp2
      go_ret
      exact ⟨rfl, BF.out⟩

/-! ### The frame of the row -/
set_option maxRecDepth 100000 in
theorem lifted (os : Os) (started : os.Started) (H : Type) (enc : TypeId × Value → H) :
    ReturnsInHanded {} Try.checked os 4 .any (Rows.boundApartSpec.pre6 enc Try.prog Try.f4 Rows.boundApartRow.domain false) (Rows.boundApartSpec.post enc Try.prog Try.f4 false true false false) := by
  refine returnsInHanded_of_change (C := Try.checked) own started (by kernel_rfl) Try.func4
    (ChangeSpec.witness6 (enc := enc) (C := Try.checked) false ⟨#[], #[.agg #[.int .i64 0, .int .i64 0, .slice none 0 0, .slice none 0 0, .int .i64 0, .int .i64 0, .int .i64 0, .int .i64 0], .agg #[.int .i64 0, .int .i64 0, .slice none 0 0, .slice none 0 0, .int .i64 0, .int .i64 0, .int .i64 0, .int .i64 0], .agg #[.int .i64 0, .int .i64 0]], []⟩ 8 (by kernel_rfl) (by kernel_rfl) (by kernel_rfl) (by kernel_rfl)) ?_
  intro W base args ds gs before hval0 hW hcnd _
  have hval : ∀ (j : Nat) t v, Try.f4.params[j]? = some t → args[j]? = some v → Value.okWide Try.prog W .any base t v := hval0
  have hW' := hW
  obtain ⟨p, q, hA0, hV, rfl, hfz, hnd⟩ := hW
  have hA : DataW.TrodAll enc Try.prog W 0 (fun _ => true) true Try.f4.params.toList args.toList ds p := hA0
  rw [Try.params4] at hA hval
  obtain ⟨v0, vs0, d0, ds0, p0, q0, hargs, rfl, rfl, h0, r0⟩ := trodAll_cons hA
  obtain ⟨v1, vs1, d1, ds1, p1, q1, rfl, rfl, rfl, h1, r1⟩ := trodAll_cons r0
  obtain ⟨v2, vs2, d2, ds2, p2, q2, rfl, rfl, rfl, h2, r2⟩ := trodAll_cons r1
  obtain ⟨rfl, rfl, rfl⟩ := trodAll_nil r2
  obtain rfl : args = #[v0, v1, v2] := by cases args; simp_all
  obtain ⟨rfl, rfl⟩ := trodVars_none hV
  have k0 := h0
  have lt0 : ∀ x ∈ p0, x.block < W.heap.size := by obtain ⟨m, hm⟩ := k0; exact DataW.trod_lt m _ _ _ hm
  obtain ⟨c, rfl, hc, hcc, hkc⟩ := open_conf (hval 0 24 v0 rfl rfl) h0
  have k1 := h1
  have lt1 : ∀ x ∈ p1, x.block < W.heap.size := by obtain ⟨m, hm⟩ := k1; exact DataW.trod_lt m _ _ _ hm
  obtain ⟨d, rfl, hd, hcd, hkd⟩ := open_conf (hval 1 24 v1 rfl rfl) h1
  have k2 := h2
  have lt2 : ∀ x ∈ p2, x.block < W.heap.size := by obtain ⟨m, hm⟩ := k2; exact DataW.trod_lt m _ _ _ hm
  obtain ⟨z0, z1, rfl, hz0, hz1⟩ := open_two_i (hval 2 29 v2 rfl rfl) h2
  clear hA0 hval0
  refine (walk c d z0 z1 W hc hcc hkc hd hcd hkd hz0 hz1).mono fun e W' ⟨he, bel⟩ => ?_
  subst he
  exact ⟨_, rfl, _, _, _, [], _, [], hW', trodAll_mk1 (shut_bool Try.underlying4 _), (trodAll_cons_mk (Below.trod laidOut (by kernel_rfl) (of_decide_eq_true (by kernel_rfl)) k0 bel lt0) (trodAll_cons_mk (Below.trod laidOut (by kernel_rfl) (of_decide_eq_true (by kernel_rfl)) k1 bel lt1) (trodAll_cons_mk (Below.trod laidOut (by kernel_rfl) (of_decide_eq_true (by kernel_rfl)) k2 bel lt2) trodAll_mk0))), rfl, bel.frame _, fun h => by cases h⟩

theorem over : Rows.boundApartRow.holds Try.pinned (OpenSpec.ofChange Rows.boundApartSpec) :=
  OpenClaim.holds_of_wide 4 Try.f4 rfl rfl rfl rfl rfl rfl rfl ⟨rfl, rfl, rfl, rfl, rfl⟩ rfl rfl rfl rfl rfl (by kernel_rfl) Try.func4 (by kernel_rfl)
    (of_decide_eq_true (by kernel_rfl)) (by unfold Func.isWrapper; first | (rw [if_pos (by decide +kernel)]; kernel_rfl) | (rw [if_neg (by decide +kernel)]; exact ⟨rfl, rfl⟩))
    (fun os started H enc _ => lifted os started H enc)

theorem proved : Rows.BoundApartSaid := over
#print axioms proved
end Go.Proofs.Ytpdhlnkdjcghpaa.boundApart
