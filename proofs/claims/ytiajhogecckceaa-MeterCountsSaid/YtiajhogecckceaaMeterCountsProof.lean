/-
  MeterCounts: whatever ints come in, the law returns true, and the input reads behind the call as it did.
-/
import Derived.Test.YtiajhogecckceaaRows
import Derived.WalkKit
import Derived.ProofKit
import Derived.OpenShut
import Derived.Test.YtiajhogecckceaaMeterAwake
import Derived.Test.YtiajhogecckceaaMeterRef
import Derived.Test.YtiajhogecckceaaIntsOpen
import Derived.ShutString
import Derived.ChangeOld
import Derived.Below
namespace Go.Proofs.Ytiajhogecckceaa.meterCounts
open Go.ChangeShapes Go.WideShapes Go.ChangeAt Go.RowKit
open Go.ChangeMaps (open_string shut_string)
set_option linter.unusedVariables false

theorem own : ownKnob Try.prog.godebug = none := by kernel_rfl
theorem laidOut : laidOutB Try.prog = true := by kernel_rfl

/-- The first k are charged. -/
structure Run (l : List Int) (g B : Nat) (w : World) (k : Nat) (w' : World) : Prop where
  below : Below B w w'
  meter : Mt w' g (total 0 (l.take k)) 0
theorem Run.next {l : List Int} {g B : Nat} {w w' w'' : World} {k : Nat} {x : Int} (h : Run l g B w k w') (hx : l[k]? = some x) (hB : B ≤ w.heap.size) (hg : B ≤ g) (m : Mt w'' g (more (total 0 (l.take k)) x) 0) (b : But (· = g) w' w'') : Run l g B w (k + 1) w'' :=
  ⟨h.below.trans (b.one (Nat.le_trans hB h.below.size) hg), by rw [total_take 0 hx]; exact m⟩
theorem Run.drewN {l : List Int} {g B : Nat} {w w' : World} {k : Nat} (h : Run l g B w k w') (n : Nat) : Run l g B w k (w'.drewN n) := ⟨belowN h.below n, h.meter.drewN n⟩

/-! ### The walk -/
theorem walk (al : Option Addr) (ll cl : Nat) (l : List Int) (w : World) (hl : Ints w w.heap.size al ll l) (hcl : ll ≤ cl) :
    Calls Try.prog 3 #[.slice al ll cl] w fun e w' => e = .returned (.bool true) ∧ Below w.heap.size w w' := by
  have hmax := hl.max
  have HLEN := Lib.hid hl.len
  go_enter Try.func3, Try.ntmps3
  go_wp2_with fail
  refine (awake05_any w).mono ?_
  rintro e w0 ⟨rfl, hb⟩
  by_cases h60 : 60 < ll
  · have d : decide ((60 : Int) < (ll : Int)) = true := by simp; omega
    go_wp2
    go_ret
    exact ⟨rfl, hb⟩
  · have d : decide ((60 : Int) < (ll : Int)) = false := by simp; omega
    have hI0 : Ints w0 w.heap.size al ll l := hl.below hb
    go_wp2_with fail
    refine (new_any w0).mono ?_
    rintro e w1 ⟨rfl, m1, b1, s1⟩
    have hI1 : Ints w1 w.heap.size al ll l := hI0.below (b1.mono hb.size)
    have HB := Lib.hid (hb.trans (b1.mono hb.size))
    have HS : Hid (w.heap.size ≤ w1.heap.size) := Lib.hid (Nat.le_trans hb.size b1.size)
    have HG := Lib.hid hb.size
    generalize hg : w0.heap.size = g at *
    clear hg hI0 hb b1 s1
    go_wp2
    go_loopw [5] (fun i wr => ∃ k : Nat, k ≤ ll ∧ i = .int .i64 k ∧ Run l g w.heap.size w1 k wr) (fun i _ => ll - (intOf i).toNat)
    case atStart => exact ⟨0, Nat.zero_le _, rfl, Below.refl _ _, m1⟩
    case round =>
      obtain ⟨k, hk, rfl, hr⟩ := hrel
      have hI : Ints wr w.heap.size al ll l := hI1.below hr.below
      by_cases hlt : k < ll
      · obtain ⟨x, hx, x1, x2⟩ := hI.at_ hlt
        obtain ⟨b, o, rfl, hb, hc⟩ := hI.head (by omega)
        have hcell := hc k x hx
        have HX := Lib.hid hx
        have HC := Lib.hid (charge_any g _ 0 x wr hr.meter)
        clear hc hx
        go_wp2_with fail
        refine HC.out.mono ?_
        rintro e w2 ⟨rfl, m2, b2⟩
        have hn := hr.next HX.out HS.out HG.out m2 b2
        have m3 := hn.meter
        have hI3 := (hI1.below hn.below).take (k := k + 1) (by omega)
        have HT : Hid (∀ n, Calls Try.prog 11 #[.pointer (some ⟨g, 0, none⟩)] (w2.drewN n) (R1 (total 0 (l.take (k + 1))) (w2.drewN n))) := Lib.hid fun n => total_any g _ 0 _ (m3.drewN n)
        have HU : Hid (∀ n, Calls Try.prog 12 #[.slice (some ⟨b, o, none⟩) (k + 1) cl] (w2.drewN n) (R1 (total 0 (l.take (k + 1))) (w2.drewN n))) := Lib.hid fun n => refSum_any _ _ cl _ _ _ (hI3.drewN n)
        have HN := Lib.hid hn
        clear hn m3 hI3 m2 b2 HC
        have hcut : ∀ v, (Instr.sliceAt 22 (.slice (some ⟨b, o, none⟩) ll cl) none (some (.int .i64 ((k : Int) + 1))) none).run Try.prog v = .ok (.slice (some ⟨b, o, none⟩) (k + 1) cl) v := fun v => cut_to (k := k + 1) (by omega) hcl v
        go_wp2_with fail
        go_quiet ((first
          | (go_at_call 11; exact quiet1 (HT.out _))
          | (go_at_call 12; exact quiet1 (HU.out _))))
        go_wp2
        go_roundw
        case rel => exact ⟨k + 1, by omega, by go_num, HN.out.drewN _⟩
        case measure => simp [intOf]; omega
      · have e : k = ll := by omega
        have HE : Hid (total 0 (l.take k) = total 0 l) := Lib.hid (by rw [List.take_of_length_le (by rw [HLEN.out]; omega)])
        subst e
        have HN := Lib.hid hr
        go_wp2_with fail
        refine (total_any g _ 0 _ HN.out.meter).mono ?_
        rintro e w2 ⟨rfl, rfl⟩
        go_wp2_with fail
        refine (refSum_any _ _ cl _ _ _ hI).mono ?_
        rw [HE.out]
        rintro e w2 ⟨rfl, rfl⟩
        go_wp2
        go_ret
        exact ⟨rfl, HB.out.trans HN.out.below⟩

/-! ### The frame of the row -/
set_option maxRecDepth 100000 in
theorem lifted (os : Os) (started : os.Started) (H : Type) (enc : TypeId × Value → H) :
    ReturnsInHanded {} Try.checked os 3 .any (Rows.meterCountsSpec.pre6 enc Try.prog Try.f3 Rows.meterCountsRow.domain false) (Rows.meterCountsSpec.post enc Try.prog Try.f3 false true false false) := by
  refine returnsInHanded_of_change (C := Try.checked) own started (by kernel_rfl) Try.func3
    (ChangeSpec.witness6 (enc := enc) (C := Try.checked) false ⟨#[], #[.slice none 0 0], []⟩ 8 (by kernel_rfl) (by kernel_rfl) (by kernel_rfl) (by kernel_rfl)) ?_
  intro W base args ds gs before hval0 hW hcnd _
  have hval : ∀ (j : Nat) t v, Try.f3.params[j]? = some t → args[j]? = some v → Value.okWide Try.prog W .any base t v := hval0
  have hW' := hW
  obtain ⟨p, q, hA0, hV, rfl, hfz, hnd⟩ := hW
  have hA : DataW.TrodAll enc Try.prog W 0 (fun _ => true) true Try.f3.params.toList args.toList ds p := hA0
  rw [Try.params3] at hA hval
  obtain ⟨v0, vs0, d0, ds0, p0, q0, hargs, rfl, rfl, h0, r0⟩ := trodAll_cons hA
  obtain ⟨rfl, rfl, rfl⟩ := trodAll_nil r0
  obtain rfl : args = #[v0] := by cases args; simp_all
  obtain ⟨rfl, rfl⟩ := trodVars_none hV
  have k0 := h0
  have lt0 : ∀ x ∈ p0, x.block < W.heap.size := by obtain ⟨m, hm⟩ := k0; exact DataW.trod_lt m _ _ _ hm
  obtain ⟨al, ll, cl, rfl⟩ := okWide_slice Try.underlying22 (hval 0 22 v0 rfl rfl)
  obtain ⟨l, hcl, hl⟩ : ∃ xs, ll ≤ cl ∧ Ints W W.heap.size al ll xs := by
    obtain ⟨fuel, hf⟩ := h0
    obtain ⟨a, l, c, xs, e, hl, hi⟩ := ints_field (by simpa [Value.cells] using hf)
    injection e with e1 e2 e3
    subst e1 e2 e3
    exact ⟨xs, hl, hi⟩
  clear hA0 hval0
  refine (walk al ll cl l W hl hcl).mono fun e W' ⟨he, bel⟩ => ?_
  subst he
  exact ⟨_, rfl, _, _, _, [], _, [], hW', trodAll_mk1 (shut_bool Try.underlying4 _), (trodAll_cons_mk (Below.trod laidOut (by kernel_rfl) (of_decide_eq_true (by kernel_rfl)) k0 bel lt0) trodAll_mk0), rfl, bel.frame _, fun h => by cases h⟩

theorem over : Rows.meterCountsRow.holds Try.pinned (OpenSpec.ofChange Rows.meterCountsSpec) :=
  OpenClaim.holds_of_wide 3 Try.f3 rfl rfl rfl rfl rfl rfl rfl ⟨rfl, rfl, rfl, rfl, rfl⟩ rfl rfl rfl rfl rfl (by kernel_rfl) Try.func3 (by kernel_rfl)
    (of_decide_eq_true (by kernel_rfl)) (by unfold Func.isWrapper; first | (rw [if_pos (by decide +kernel)]; kernel_rfl) | (rw [if_neg (by decide +kernel)]; exact ⟨rfl, rfl⟩))
    (fun os started H enc _ => lifted os started H enc)

theorem proved : Rows.MeterCountsSaid := over
#print axioms proved
end Go.Proofs.Ytiajhogecckceaa.meterCounts
