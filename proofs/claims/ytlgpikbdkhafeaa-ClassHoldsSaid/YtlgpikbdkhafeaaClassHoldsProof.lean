/-
  almerylaw02.ClassHolds returns true for every slice of ints and every two ints, and all memory that was there is as it was. No condition.
-/
import Derived.Test.YtlgpikbdkhafeaaRows
import Derived.WalkKit
import Derived.ProofKit
import Derived.OpenShut
import Derived.Test.YtlgpikbdkhafeaaClassAwake
import Derived.ShutString
import Derived.ChangeOld
import Derived.Below
namespace Go.Proofs.Ytlgpikbdkhafeaa.classHolds
open Go.ChangeShapes Go.WideShapes Go.ChangeAt Go.RowKit
open Go.ChangeMaps (open_string shut_string)
set_option linter.unusedVariables false

theorem own : ownKnob Try.prog.godebug = none := by kernel_rfl
theorem laidOut : laidOutB Try.prog = true := by kernel_rfl

/-- WHAT THE WALK IS TOLD OF A SLICE OF INTEGERS THAT CAME IN: it is nil; or it leads to a row of 'cap' cells, the numbers 'zs' (the first 'len' are its elements, the rest its spare room), each fitting its kind. -/
def IsRow (k : IntKind) (w : World) (a : Option Addr) (len cap : Nat) (zs : List Int) : Prop :=
  (a = none ∧ len = 0 ∧ cap = 0 ∧ zs = []) ∨
  ∃ x, a = some x ∧ len ≤ cap ∧ cap ≤ maxLen ∧ zs.length = cap ∧ (∀ i, i < zs.length → w.cell? (x.add i) = some (.int k (zs.getD i 0))) ∧ ∀ n ∈ zs, (Lit.int k n).wf = true

/-- A callee that leaves the world alone, met in a region that draws. -/
theorem quiet1 {f : FuncId} {args : Array Value} {w : World} {n : Nat} {P : Int} (h : Calls Try.prog f args (w.drewN n) (R1 P (w.drewN n))) :
    Calls Try.prog f args (w.drewN n) fun e w'' => e = .returned (.int .i64 P) ∧ ∃ m, w'' = w.drewN m :=
  h.mono fun _ _ ⟨he, hm⟩ => ⟨he, n, hm.symm⟩
/-- Of sizes that may be no one is above the last. -/
theorem le_last {xs : List Int} {page l : Int} (h : okFrom page 0 xs = true) (hl : xs[xs.length - 1]? = some l) {j : Nat} {s : Int} (hs : xs[j]? = some s) : s ≤ l := by
  obtain ⟨hj, _⟩ := List.getElem?_eq_some_iff.1 hs
  by_cases e : j = xs.length - 1
  · subst e; rw [hl] at hs; injection hs with hs; omega
  · have := okFrom_rise xs 0 h j (xs.length - 1) s l (by omega) hs hl
    omega
set_option maxHeartbeats 1000000 in
theorem walk0 (b o len0 cap0 : Nat) (a1 a2 l s z : Int) (w : World) (hb : b < w.heap.size) (hn : 1 ≤ len0) (hmax : len0 ≤ 9223372036854775807) 
    (hcl : w.cell? ⟨b, o + (len0 - 1), none⟩ = some (.int .i64 l)) (hck : w.cell? ⟨b, o, none⟩ = some (.int .i64 s)) 
    (HM : Hid (∀ v, Below w.heap.size w v → Calls Try.prog 10 #[.slice (some ⟨b, o, none⟩) len0 cap0, .int .i64 4096] v (RQ 0 v)))
    (HQ : Hid (∀ v, Below w.heap.size w v → Calls Try.prog 11 #[.slice (some ⟨b, o, none⟩) len0 cap0, .int .i64 a1] v (R1 (0) v)))
    (HR : Hid (∀ v, Below w.heap.size w v → Calls Try.prog 11 #[.slice (some ⟨b, o, none⟩) len0 cap0, .int .i64 a2] v (R1 z v)))
    (HW : Hid (∀ v, Below w.heap.size w v → Calls Try.prog 13 #[.slice (some ⟨b, o, none⟩) len0 cap0, .int .i64 a1] v (R1 (s - a1) v)))
    (g1 : 1 ≤ a1) (g2 : a1 ≤ l) (g6 : a1 ≤ s) (b2 : a1 ≤ 9223372036854775807) (s2 : s ≤ 9223372036854775807) (hz : a2 < a1 ∨ (¬ a2 < a1 ∧ l < a2) ∨ (¬ a2 < a1 ∧ ¬ l < a2 ∧ 0 ≤ z)) :
    Calls Try.prog 7 #[.slice (some ⟨b, o, none⟩) len0 cap0, .int .i64 a1, .int .i64 a2] w fun e w' => e = .returned (.bool true) ∧ Below w.heap.size w w' := by
  have d1 : decide (a1 ≤ s) = true := by simpa using g6
  have e1 : (s - a1 == s - a1) = true := by simp
  have hws : IntKind.i64.wrap (s - a1) = s - a1 := IntWalk.i64_in _ (by omega)
  have hx : ((len0 : Int) - 1).toNat = len0 - 1 := by omega
  have hl1 : ¬ l < a1 := by omega
  have hn1 : ¬ a1 < 1 := by omega
  have hl0 : (0 : Int) < (len0 : Int) := by omega
  rcases hz with hz | ⟨hz1, hz2⟩ | ⟨hz1, hz2, hz3⟩
  · have d2 : decide (a2 < a1) = true := by simpa using hz
    go_enter Try.func7, Try.ntmps7
    go_wp2_with fail
    refine (awake02_any w).mono ?_
    rintro e v1 ⟨rfl, f1⟩
    go_wp2_with fail
    refine (HM.out _ f1).mono ?_
    rintro e v2 ⟨rfl, d, rfl⟩
    have f2 : Below w.heap.size w (v1.drewN d) := ⟨f1.os, f1.tape, f1.output, f1.size, f1.block⟩
    generalize v1.drewN d = v2 at *
    have hcl2 : v2.cell? ⟨b, o + (len0 - 1), none⟩ = some (.int .i64 l) := (f2.cell (p := ⟨b, o + (len0 - 1), none⟩) hb).trans hcl
    have hck2 : v2.cell? ⟨b, o, none⟩ = some (.int .i64 s) := (f2.cell (p := ⟨b, o, none⟩) hb).trans hck
    go_wp2_with fail
    refine (HQ.out _ f2).mono ?_
    rintro e v3 ⟨rfl, rfl⟩
    go_wp2_with fail
    refine (HR.out _ f2).mono ?_
    rintro e v3 ⟨rfl, rfl⟩
    have HW2 := Lib.hid (fun n => HW.out (v2.drewN n) ⟨f2.os, f2.tape, f2.output, f2.size, f2.block⟩)
    go_wp2_with fail
    go_quiet ((go_at_call 13; exact quiet1 (HW2.out _)))
    go_wp2
    try go_ret
    exact ⟨rfl, ⟨f2.os, f2.tape, f2.output, f2.size, f2.block⟩⟩
  · have d2 : decide (a2 < a1) = false := by simpa using hz1
    have d3 : decide (l < a2) = true := by simpa using hz2
    go_enter Try.func7, Try.ntmps7
    go_wp2_with fail
    refine (awake02_any w).mono ?_
    rintro e v1 ⟨rfl, f1⟩
    go_wp2_with fail
    refine (HM.out _ f1).mono ?_
    rintro e v2 ⟨rfl, d, rfl⟩
    have f2 : Below w.heap.size w (v1.drewN d) := ⟨f1.os, f1.tape, f1.output, f1.size, f1.block⟩
    generalize v1.drewN d = v2 at *
    have hcl2 : v2.cell? ⟨b, o + (len0 - 1), none⟩ = some (.int .i64 l) := (f2.cell (p := ⟨b, o + (len0 - 1), none⟩) hb).trans hcl
    have hck2 : v2.cell? ⟨b, o, none⟩ = some (.int .i64 s) := (f2.cell (p := ⟨b, o, none⟩) hb).trans hck
    go_wp2_with fail
    refine (HQ.out _ f2).mono ?_
    rintro e v3 ⟨rfl, rfl⟩
    go_wp2_with fail
    refine (HR.out _ f2).mono ?_
    rintro e v3 ⟨rfl, rfl⟩
    have HW2 := Lib.hid (fun n => HW.out (v2.drewN n) ⟨f2.os, f2.tape, f2.output, f2.size, f2.block⟩)
    go_wp2_with fail
    go_quiet ((go_at_call 13; exact quiet1 (HW2.out _)))
    go_wp2
    try go_ret
    exact ⟨rfl, ⟨f2.os, f2.tape, f2.output, f2.size, f2.block⟩⟩
  · have d2 : decide (a2 < a1) = false := by simpa using hz1
    have d3 : decide (l < a2) = false := by simpa using hz2
    have d4 : decide ((0 : Int) ≤ z) = true := by simpa using hz3
    go_enter Try.func7, Try.ntmps7
    go_wp2_with fail
    refine (awake02_any w).mono ?_
    rintro e v1 ⟨rfl, f1⟩
    go_wp2_with fail
    refine (HM.out _ f1).mono ?_
    rintro e v2 ⟨rfl, d, rfl⟩
    have f2 : Below w.heap.size w (v1.drewN d) := ⟨f1.os, f1.tape, f1.output, f1.size, f1.block⟩
    generalize v1.drewN d = v2 at *
    have hcl2 : v2.cell? ⟨b, o + (len0 - 1), none⟩ = some (.int .i64 l) := (f2.cell (p := ⟨b, o + (len0 - 1), none⟩) hb).trans hcl
    have hck2 : v2.cell? ⟨b, o, none⟩ = some (.int .i64 s) := (f2.cell (p := ⟨b, o, none⟩) hb).trans hck
    go_wp2_with fail
    refine (HQ.out _ f2).mono ?_
    rintro e v3 ⟨rfl, rfl⟩
    go_wp2_with fail
    refine (HR.out _ f2).mono ?_
    rintro e v3 ⟨rfl, rfl⟩
    have HW2 := Lib.hid (fun n => HW.out (v2.drewN n) ⟨f2.os, f2.tape, f2.output, f2.size, f2.block⟩)
    go_wp2_with fail
    go_quiet ((go_at_call 13; exact quiet1 (HW2.out _)))
    go_wp2
    try go_ret
    exact ⟨rfl, ⟨f2.os, f2.tape, f2.output, f2.size, f2.block⟩⟩

set_option maxHeartbeats 1000000 in
theorem walk1 (b o len0 cap0 j : Nat) (a1 a2 l s p z : Int) (w : World) (hb : b < w.heap.size) (hn : 1 ≤ len0) (hmax : len0 ≤ 9223372036854775807) (hjn : j + 1 < len0)
    (hcl : w.cell? ⟨b, o + (len0 - 1), none⟩ = some (.int .i64 l)) (hck : w.cell? ⟨b, o + (j + 1), none⟩ = some (.int .i64 s)) (hcp : w.cell? ⟨b, o + j, none⟩ = some (.int .i64 p)) (hpa : p < a1)
    (HM : Hid (∀ v, Below w.heap.size w v → Calls Try.prog 10 #[.slice (some ⟨b, o, none⟩) len0 cap0, .int .i64 4096] v (RQ 0 v)))
    (HQ : Hid (∀ v, Below w.heap.size w v → Calls Try.prog 11 #[.slice (some ⟨b, o, none⟩) len0 cap0, .int .i64 a1] v (R1 (((j + 1 : Nat) : Int)) v)))
    (HR : Hid (∀ v, Below w.heap.size w v → Calls Try.prog 11 #[.slice (some ⟨b, o, none⟩) len0 cap0, .int .i64 a2] v (R1 z v)))
    (HW : Hid (∀ v, Below w.heap.size w v → Calls Try.prog 13 #[.slice (some ⟨b, o, none⟩) len0 cap0, .int .i64 a1] v (R1 (s - a1) v)))
    (g1 : 1 ≤ a1) (g2 : a1 ≤ l) (g6 : a1 ≤ s) (b2 : a1 ≤ 9223372036854775807) (s2 : s ≤ 9223372036854775807) (hz : a2 < a1 ∨ (¬ a2 < a1 ∧ l < a2) ∨ (¬ a2 < a1 ∧ ¬ l < a2 ∧ ((j + 1 : Nat) : Int) ≤ z)) :
    Calls Try.prog 7 #[.slice (some ⟨b, o, none⟩) len0 cap0, .int .i64 a1, .int .i64 a2] w fun e w' => e = .returned (.bool true) ∧ Below w.heap.size w w' := by
  have d1 : decide (a1 ≤ s) = true := by simpa using g6
  have e1 : (s - a1 == s - a1) = true := by simp
  have hws : IntKind.i64.wrap (s - a1) = s - a1 := IntWalk.i64_in _ (by omega)
  have hx : ((len0 : Int) - 1).toNat = len0 - 1 := by omega
  have hl1 : ¬ l < a1 := by omega
  have hn1 : ¬ a1 < 1 := by omega
  have hj1 : ((j : Int) + 1 == 0) = false := by simp; omega
  have hjl : (j : Int) < (len0 : Int) := by omega
  have hjl1 : (j : Int) + 1 < (len0 : Int) := by omega
  have hpd : decide (p < a1) = true := by simpa using hpa
  rcases hz with hz | ⟨hz1, hz2⟩ | ⟨hz1, hz2, hz3⟩
  · have d2 : decide (a2 < a1) = true := by simpa using hz
    go_enter Try.func7, Try.ntmps7
    go_wp2_with fail
    refine (awake02_any w).mono ?_
    rintro e v1 ⟨rfl, f1⟩
    go_wp2_with fail
    refine (HM.out _ f1).mono ?_
    rintro e v2 ⟨rfl, d, rfl⟩
    have f2 : Below w.heap.size w (v1.drewN d) := ⟨f1.os, f1.tape, f1.output, f1.size, f1.block⟩
    generalize v1.drewN d = v2 at *
    have hcl2 : v2.cell? ⟨b, o + (len0 - 1), none⟩ = some (.int .i64 l) := (f2.cell (p := ⟨b, o + (len0 - 1), none⟩) hb).trans hcl
    have hck2 : v2.cell? ⟨b, o + (j + 1), none⟩ = some (.int .i64 s) := (f2.cell (p := ⟨b, o + (j + 1), none⟩) hb).trans hck
    have hcp2 : v2.cell? ⟨b, o + j, none⟩ = some (.int .i64 p) := (f2.cell (p := ⟨b, o + j, none⟩) hb).trans hcp
    go_wp2_with fail
    refine (HQ.out _ f2).mono ?_
    rintro e v3 ⟨rfl, rfl⟩
    go_wp2_with fail
    refine (HR.out _ f2).mono ?_
    rintro e v3 ⟨rfl, rfl⟩
    have HW2 := Lib.hid (fun n => HW.out (v2.drewN n) ⟨f2.os, f2.tape, f2.output, f2.size, f2.block⟩)
    go_wp2_with fail
    go_quiet ((go_at_call 13; exact quiet1 (HW2.out _)))
    go_wp2
    try go_ret
    exact ⟨rfl, ⟨f2.os, f2.tape, f2.output, f2.size, f2.block⟩⟩
  · have d2 : decide (a2 < a1) = false := by simpa using hz1
    have d3 : decide (l < a2) = true := by simpa using hz2
    go_enter Try.func7, Try.ntmps7
    go_wp2_with fail
    refine (awake02_any w).mono ?_
    rintro e v1 ⟨rfl, f1⟩
    go_wp2_with fail
    refine (HM.out _ f1).mono ?_
    rintro e v2 ⟨rfl, d, rfl⟩
    have f2 : Below w.heap.size w (v1.drewN d) := ⟨f1.os, f1.tape, f1.output, f1.size, f1.block⟩
    generalize v1.drewN d = v2 at *
    have hcl2 : v2.cell? ⟨b, o + (len0 - 1), none⟩ = some (.int .i64 l) := (f2.cell (p := ⟨b, o + (len0 - 1), none⟩) hb).trans hcl
    have hck2 : v2.cell? ⟨b, o + (j + 1), none⟩ = some (.int .i64 s) := (f2.cell (p := ⟨b, o + (j + 1), none⟩) hb).trans hck
    have hcp2 : v2.cell? ⟨b, o + j, none⟩ = some (.int .i64 p) := (f2.cell (p := ⟨b, o + j, none⟩) hb).trans hcp
    go_wp2_with fail
    refine (HQ.out _ f2).mono ?_
    rintro e v3 ⟨rfl, rfl⟩
    go_wp2_with fail
    refine (HR.out _ f2).mono ?_
    rintro e v3 ⟨rfl, rfl⟩
    have HW2 := Lib.hid (fun n => HW.out (v2.drewN n) ⟨f2.os, f2.tape, f2.output, f2.size, f2.block⟩)
    go_wp2_with fail
    go_quiet ((go_at_call 13; exact quiet1 (HW2.out _)))
    go_wp2
    try go_ret
    exact ⟨rfl, ⟨f2.os, f2.tape, f2.output, f2.size, f2.block⟩⟩
  · have d2 : decide (a2 < a1) = false := by simpa using hz1
    have d3 : decide (l < a2) = false := by simpa using hz2
    have d4 : decide ((j : Int) + 1 ≤ z) = true := by simp; omega
    go_enter Try.func7, Try.ntmps7
    go_wp2_with fail
    refine (awake02_any w).mono ?_
    rintro e v1 ⟨rfl, f1⟩
    go_wp2_with fail
    refine (HM.out _ f1).mono ?_
    rintro e v2 ⟨rfl, d, rfl⟩
    have f2 : Below w.heap.size w (v1.drewN d) := ⟨f1.os, f1.tape, f1.output, f1.size, f1.block⟩
    generalize v1.drewN d = v2 at *
    have hcl2 : v2.cell? ⟨b, o + (len0 - 1), none⟩ = some (.int .i64 l) := (f2.cell (p := ⟨b, o + (len0 - 1), none⟩) hb).trans hcl
    have hck2 : v2.cell? ⟨b, o + (j + 1), none⟩ = some (.int .i64 s) := (f2.cell (p := ⟨b, o + (j + 1), none⟩) hb).trans hck
    have hcp2 : v2.cell? ⟨b, o + j, none⟩ = some (.int .i64 p) := (f2.cell (p := ⟨b, o + j, none⟩) hb).trans hcp
    go_wp2_with fail
    refine (HQ.out _ f2).mono ?_
    rintro e v3 ⟨rfl, rfl⟩
    go_wp2_with fail
    refine (HR.out _ f2).mono ?_
    rintro e v3 ⟨rfl, rfl⟩
    have HW2 := Lib.hid (fun n => HW.out (v2.drewN n) ⟨f2.os, f2.tape, f2.output, f2.size, f2.block⟩)
    go_wp2_with fail
    go_quiet ((go_at_call 13; exact quiet1 (HW2.out _)))
    go_wp2
    try go_ret
    exact ⟨rfl, ⟨f2.os, f2.tape, f2.output, f2.size, f2.block⟩⟩

/-! ### The walk -/
theorem walk (a0 : Option Addr) (len0 cap0 : Nat) (z0 : List Int) (a1 : Int) (a2 : Int) (w : World) (w0 : IsRow .i64 w a0 len0 cap0 z0) (w1 : (Lit.int .i64 a1).wf = true) (w2 : (Lit.int .i64 a2).wf = true) :
    Calls Try.prog 7 #[.slice a0 len0 cap0, .int .i64 a1, .int .i64 a2] w fun e w' => e = .returned (.bool true) ∧ Below w.heap.size w w' := by
  have hI : Ints w w.heap.size a0 len0 (z0.take len0) := Ints.of_row w0
  generalize z0.take len0 = xs at hI
  clear w0
  have hmax := hI.max
  obtain ⟨b1, b2⟩ := wf_i64 w1
  obtain ⟨b3, b4⟩ := wf_i64 w2
  have HM := Lib.hid (fun v (hv : Below w.heap.size w v) => refMay_any a0 len0 cap0 xs 4096 _ _ (hI.on hv))
  rcases may_01 xs 4096 with h0 | h0
  · obtain ⟨m1, m2, m3⟩ := mayB_of h0
    rw [h0] at HM
    have hlen := hI.len
    obtain ⟨l, hl, _, _⟩ := hI.at_ (k := len0 - 1) (by omega)
    obtain ⟨l1, l2, l3, l4⟩ := okFrom_all xs 0 m3 _ _ hl
    have hn : 1 ≤ len0 := by omega
    have hll : xs[xs.length - 1]? = some l := by rw [hlen]; exact hl
    obtain ⟨b, o, rfl, hb, hc⟩ := hI.head (by omega)
    have hcl := hc (len0 - 1) l hl
    have hx : ((len0 : Int) - 1).toNat = len0 - 1 := by omega
    have HP := Lib.hid (fun x v (hv : Below w.heap.size w v) => pick_any (some ⟨b, o, none⟩) len0 cap0 xs x _ v (hI.on hv))
    have HW := Lib.hid (fun v (hv : Below w.heap.size w v) => waste_any (some ⟨b, o, none⟩) len0 cap0 xs a1 _ v (hI.on hv))
    have hway : (a1 < 1 ∨ l < a1) ∧ pick xs a1 = -1 ∧ waste xs a1 = -1 ∨ 1 ≤ a1 ∧ a1 ≤ l ∧ ∃ (k : Nat) (s : Int), k < len0 ∧ pick xs a1 = (k : Int) ∧ xs[k]? = some s ∧ a1 ≤ s ∧ Less xs a1 k ∧ waste xs a1 = s - a1 := by
      rcases pick_ways xs a1 with ⟨g1, g2⟩ | ⟨g1, g2, g3⟩ | ⟨k, s, g1, g2, g3, g4, g5, g6⟩
      · exact .inl ⟨.inl g1, g2, waste_off g2⟩
      · refine .inl ⟨.inr (g3 _ _ ?_ hll), g2, waste_off g2⟩
        omega
      · have := le_last m3 hll g4
        exact .inr ⟨g1, by omega, k, s, by omega, g3, g4, g5, g6, waste_hit g3 g4⟩
    rcases hway with ⟨g1, g2, g3⟩ | ⟨g1, g2, k, s, g3, g4, g5, g6, g7, g8⟩
    · rw [g3] at HW
      have HQ := Lib.hid (fun v (hv : Below w.heap.size w v) => by have := HP.out a1 v hv; rw [g2] at this; exact this)
      clear h0 m3 hlen hl hll hc HP g2 g3 hI
      by_cases h1 : a1 < 1
      all_goals
        try have hla : l < a1 := by omega
        clear g1
        go_enter Try.func7, Try.ntmps7
        go_wp2_with fail
        refine (awake02_any w).mono ?_
        rintro e v1 ⟨rfl, f1⟩
        go_wp2_with fail
        refine (HM.out _ f1).mono ?_
        rintro e v2 ⟨rfl, d, rfl⟩
        have f2 : Below w.heap.size w (v1.drewN d) := ⟨f1.os, f1.tape, f1.output, f1.size, f1.block⟩
        generalize v1.drewN d = v2 at *
        have hcl2 : v2.cell? ⟨b, o + (len0 - 1), none⟩ = some (.int .i64 l) := (f2.cell (p := ⟨b, o + (len0 - 1), none⟩) hb).trans hcl
        go_wp2_with fail
        refine (HQ.out _ f2).mono ?_
        rintro e v3 ⟨rfl, rfl⟩
        go_wp2_with fail
        refine (HW.out _ f2).mono ?_
        rintro e v3 ⟨rfl, rfl⟩
        go_wp2
        go_ret
        exact ⟨rfl, f2⟩
    · rw [g8] at HW
      have HQ := Lib.hid (fun v (hv : Below w.heap.size w v) => by have := HP.out a1 v hv; rw [g4] at this; exact this)
      have HR := Lib.hid (fun v (hv : Below w.heap.size w v) => HP.out a2 v hv)
      have hck := hc k s g5
      obtain ⟨s1, s2⟩ := hI.fit g5
      have hz : a2 < a1 ∨ (¬ a2 < a1 ∧ l < a2) ∨ (¬ a2 < a1 ∧ ¬ l < a2 ∧ (k : Int) ≤ pick xs a2) := by
        by_cases c1 : a2 < a1
        · exact .inl c1
        by_cases c2 : l < a2
        · exact .inr (.inl ⟨c1, c2⟩)
        refine .inr (.inr ⟨c1, c2, ?_⟩)
        rcases pick_ways xs a2 with ⟨r1, _⟩ | ⟨_, _, r3⟩ | ⟨k2, t, r1, r2, r3, r4, r5, r6⟩
        · omega
        · have := r3 _ _ (by omega) hll
          omega
        · rw [r3]
          by_cases c : k ≤ k2
          · omega
          · have := g7 k2 t (by omega) r4
            omega
      have hp : k = 0 ∨ ∃ (j : Nat) (p : Int), k = j + 1 ∧ w.cell? ⟨b, o + j, none⟩ = some (.int .i64 p) ∧ p < a1 := by
        by_cases c : k = 0
        · exact .inl c
        · obtain ⟨p, hp, _, _⟩ := hI.at_ (k := k - 1) (by omega)
          exact .inr ⟨k - 1, p, by omega, hc _ _ hp, g7 _ _ (by omega) hp⟩
      generalize pick xs a2 = z at *
      clear h0 m3 hlen hl hll hc HP g4 g5 g7 g8 hI
      rcases hp with rfl | ⟨j, p, rfl, hcp, hpa⟩
      · exact walk0 b o len0 cap0 a1 a2 l s z w hb hn hmax hcl (by simpa using hck) HM HQ HR HW g1 g2 g6 b2 s2 hz
      · exact walk1 b o len0 cap0 j a1 a2 l s p z w hb hn hmax g3 hcl hck hcp hpa HM HQ HR HW g1 g2 g6 b2 s2 hz
  · rw [h0] at HM
    clear h0
    go_enter Try.func7, Try.ntmps7
    go_wp2_with fail
    refine (awake02_any w).mono ?_
    rintro e v1 ⟨rfl, f1⟩
    go_wp2_with fail
    refine (HM.out _ f1).mono ?_
    rintro e v2 ⟨rfl, d, rfl⟩
    go_wp2
    go_ret
    exact ⟨rfl, ⟨f1.os, f1.tape, f1.output, f1.size, f1.block⟩⟩

/-! ### The frame of the row -/
set_option maxRecDepth 100000 in
theorem lifted (os : Os) (started : os.Started) (H : Type) (enc : TypeId × Value → H) :
    ReturnsInHanded {} Try.checked os 7 .any (Rows.classHoldsSpec.pre6 enc Try.prog Try.f7 Rows.classHoldsRow.domain false) (Rows.classHoldsSpec.post enc Try.prog Try.f7 false true false false) := by
  refine returnsInHanded_of_change (C := Try.checked) own started (by kernel_rfl) Try.func7
    (ChangeSpec.witness6 (enc := enc) (C := Try.checked) false ⟨#[], #[.slice none 0 0, .int .i64 0, .int .i64 0], []⟩ 8 (by kernel_rfl) (by kernel_rfl) (by kernel_rfl) (by kernel_rfl)) ?_
  intro W base args ds gs before hval0 hW hcnd _
  have hval : ∀ (j : Nat) t v, Try.f7.params[j]? = some t → args[j]? = some v → Value.okWide Try.prog W .any base t v := hval0
  have hW' := hW
  obtain ⟨p, q, hA0, hV, rfl, hfz, hnd⟩ := hW
  have hA : DataW.TrodAll enc Try.prog W 0 (fun _ => true) true Try.f7.params.toList args.toList ds p := hA0
  rw [Try.params7] at hA hval
  obtain ⟨v0, vs0, d0, ds0, p0, q0, hargs, rfl, rfl, h0, r0⟩ := trodAll_cons hA
  obtain ⟨v1, vs1, d1, ds1, p1, q1, rfl, rfl, rfl, h1, r1⟩ := trodAll_cons r0
  obtain ⟨v2, vs2, d2, ds2, p2, q2, rfl, rfl, rfl, h2, r2⟩ := trodAll_cons r1
  obtain ⟨rfl, rfl, rfl⟩ := trodAll_nil r2
  obtain rfl : args = #[v0, v1, v2] := by cases args; simp_all
  obtain ⟨rfl, rfl⟩ := trodVars_none hV
  obtain ⟨a0, len0, cap0, rfl⟩ := okWide_slice Try.underlying22 (hval 0 22 v0 rfl rfl)
  have k0 := h0
  have lt0 : ∀ x ∈ p0, x.block < W.heap.size := by obtain ⟨m, hm⟩ := k0; exact DataW.trod_lt m _ _ _ hm
  obtain ⟨z0, w0⟩ : ∃ zs, IsRow .i64 W a0 len0 cap0 zs := by
    obtain ⟨fuel, hf⟩ := h0
    rcases open_ints Try.underlying22 Try.underlying3 (by kernel_rfl) hf with ⟨hcs, _⟩ | ⟨x, l, c, zs, hcs, _, hl, hm, hz, _, hcell, hwz⟩
    · simp [Value.cells] at hcs
      obtain ⟨rfl, rfl, rfl⟩ := hcs
      exact ⟨[], .inl ⟨rfl, rfl, rfl, rfl⟩⟩
    · simp [Value.cells] at hcs
      obtain ⟨rfl, rfl, rfl⟩ := hcs
      exact ⟨zs, .inr ⟨_, rfl, hl, hm, by simpa using hz, hcell, hwz⟩⟩
  obtain ⟨a1, rfl, rfl, rfl, w1⟩ := open_int Try.underlying3 (hval 1 3 v1 rfl rfl) h1
  obtain ⟨a2, rfl, rfl, rfl, w2⟩ := open_int Try.underlying3 (hval 2 3 v2 rfl rfl) h2
  clear hA0 hval0
  refine (walk a0 len0 cap0 z0 a1 a2 W w0 w1 w2).mono fun e W' ⟨he, bel⟩ => ?_
  subst he
  exact ⟨_, rfl, _, _, _, [], _, [], hW', trodAll_mk1 (shut_bool Try.underlying4 _), (trodAll_cons_mk (Below.trod laidOut (by kernel_rfl) (of_decide_eq_true (by kernel_rfl)) k0 bel lt0) (trodAll_cons_mk (shut_int Try.underlying3 w1) (trodAll_cons_mk (shut_int Try.underlying3 w2) trodAll_mk0))), rfl, bel.frame _, fun h => by cases h⟩

theorem over : Rows.classHoldsRow.holds Try.pinned (OpenSpec.ofChange Rows.classHoldsSpec) :=
  OpenClaim.holds_of_wide 7 Try.f7 rfl rfl rfl rfl rfl rfl rfl ⟨rfl, rfl, rfl, rfl, rfl⟩ rfl rfl rfl rfl rfl (by kernel_rfl) Try.func7 (by kernel_rfl)
    (of_decide_eq_true (by kernel_rfl)) (by unfold Func.isWrapper; first | (rw [if_pos (by decide +kernel)]; kernel_rfl) | (rw [if_neg (by decide +kernel)]; exact ⟨rfl, rfl⟩))
    (fun os started H enc _ => lifted os started H enc)

theorem proved : Rows.ClassHoldsSaid := over
#print axioms proved
end Go.Proofs.Ytlgpikbdkhafeaa.classHolds
