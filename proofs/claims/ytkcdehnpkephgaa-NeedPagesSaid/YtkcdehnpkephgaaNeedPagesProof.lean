/-
  almerylaw17.NeedPages returns true for every layout and every slice of ints, and all memory that was there is as it was. No condition.
-/
import Derived.Test.YtkcdehnpkephgaaRows
import Derived.WalkKit
import Derived.ProofKit
import Derived.OpenShut
import Derived.Test.YtkcdehnpkephgaaNeedAwake
import Derived.Test.YtkcdehnpkephgaaNeedRefPages
import Derived.Test.YtkcdehnpkephgaaConfRefMay
import Derived.Test.YtkcdehnpkephgaaConfOpen
import Derived.ShutString
import Derived.ChangeOld
import Derived.Below
namespace Go.Proofs.Ytkcdehnpkephgaa.needPages
open Go.ChangeShapes Go.WideShapes Go.ChangeAt Go.RowKit
open Go.ChangeMaps (open_string shut_string)
set_option linter.unusedVariables false

theorem own : ownKnob Try.prog.godebug = none := by kernel_rfl
theorem laidOut : laidOutB Try.prog = true := by kernel_rfl

/-! ### The walk -/
set_option maxRecDepth 20000 in
set_option maxHeartbeats 2000000 in
theorem walk (c : Cf) (al : Option Addr) (ll cl : Nat) (l : List Int) (w : World) (hc : c.Ok w w.heap.size) (hcc : c.cn ≤ c.cc) (hkc : c.kn ≤ c.kc) (hl : Ints w w.heap.size al ll l) (hcl : ll ≤ cl) :
    Calls Try.prog 3 #[.agg #[.int .i64 c.size, .int .i64 c.pages, .slice c.ca c.cn c.cc, .slice c.ka c.kn c.kc, .int .i64 c.step, .int .i64 c.slots, .int .i64 c.gens, .int .i64 c.most], .slice al ll cl] w fun e w' => e = .returned (.bool true) ∧ Below w.heap.size w w' := by
  have hmax := hl.max
  have B0 := Boxed.new w c
  have b0 := below1 w (.cells #[.int .i64 c.size, .int .i64 c.pages, .slice c.ca c.cn c.cc, .slice c.ka c.kn c.kc, .int .i64 c.step, .int .i64 c.slots, .int .i64 c.gens, .int .i64 c.most] 24)
  have O0 := hc.on b0
  have L0 := hl.on b0
  clear hc hl
  go_enter Try.func3, Try.ntmps3
  go_wp2_with fail
  refine (awake17_any _).mono ?_
  rintro e w1 ⟨rfl, f1⟩
  have B1 := B0.on f1
  have O1 := Lib.hid (O0.on f1)
  have L1 := Lib.hid (L0.on f1)
  have b1 := Lib.hid (belowT b0 f1)
  clear f1 B0 O0 b0 L0
  have ⟨x0, x1, x2, x3, x4, x5, x6, x7, x8⟩ := B1
  have HM := refConfMay_any c w1 O1.out
  cases hB : confB c with
  | false =>
    rw [confMay_off hB] at HM
    have H := Lib.hid HM
    clear HM hB
    go_wp2_with fail
    refine H.out.mono ?_
    rintro e w2 ⟨rfl, f2⟩
    go_wp2
    go_ret
    exact ⟨rfl, belowT b1.out f2⟩
  | true =>
    rw [confMay_on hB] at HM
    have H := Lib.hid HM
    have M := Lib.hid (mayC hB)
    clear HM hB
    by_cases h60 : 60 < ll
    · have d60 : decide ((60 : Int) < (ll : Int)) = true := decide_eq_true (by omega)
      have d60' : decide (60 < ll) = true := decide_eq_true h60
      go_wp2_with fail
      refine H.out.mono ?_
      rintro e w2 ⟨rfl, f2⟩
      go_wp2
      go_ret
      exact ⟨rfl, belowT b1.out f2⟩
    · have d60 : decide ((60 : Int) < (ll : Int)) = false := decide_eq_false (by omega)
      have d60' : decide (60 < ll) = false := decide_eq_false h60
      go_wp2_with fail
      refine H.out.mono ?_
      rintro e w2 ⟨rfl, f2⟩
      have B2 := B1.on f2
      have HP := Lib.hid (needPages_any c al ll cl l w2 (O1.out.on f2) M.out (L1.out.on f2) (by omega))
      have O2 := Lib.hid (O1.out.on f2)
      have L2 := Lib.hid (L1.out.on f2)
      have b2 := Lib.hid (belowT b1.out f2)
      clear f2 b1 O1 L1 B1 H x0 x1 x2 x3 x4 x5 x6 x7 x8
      have ⟨x0, x1, x2, x3, x4, x5, x6, x7, x8⟩ := B2
      go_wp2_with fail
      refine HP.out.mono ?_
      rintro e w3 ⟨rfl, f3⟩
      have B3 := B2.on f3
      have HR := Lib.hid (refPages_any c al ll cl l w3 (O2.out.on f3) M.out (L2.out.on f3) (by omega))
      have b3 := Lib.hid (belowT b2.out f3)
      clear f3 b2 O2 L2 B2 HP x0 x1 x2 x3 x4 x5 x6 x7 x8
      have ⟨x0, x1, x2, x3, x4, x5, x6, x7, x8⟩ := B3
      go_wp2_with fail
      refine HR.out.mono ?_
      rintro e w4 ⟨rfl, f4⟩
      go_wp2
      go_ret
      exact ⟨rfl, belowT b3.out f4⟩

/-! ### The frame of the row -/
set_option maxRecDepth 100000 in
theorem lifted (os : Os) (started : os.Started) (H : Type) (enc : TypeId × Value → H) :
    ReturnsInHanded {} Try.checked os 3 .any (Rows.needPagesSpec.pre6 enc Try.prog Try.f3 Rows.needPagesRow.domain false) (Rows.needPagesSpec.post enc Try.prog Try.f3 false true false false) := by
  refine returnsInHanded_of_change (C := Try.checked) own started (by kernel_rfl) Try.func3
    (ChangeSpec.witness6 (enc := enc) (C := Try.checked) false ⟨#[], #[.agg #[.int .i64 0, .int .i64 0, .slice none 0 0, .slice none 0 0, .int .i64 0, .int .i64 0, .int .i64 0, .int .i64 0], .slice none 0 0], []⟩ 8 (by kernel_rfl) (by kernel_rfl) (by kernel_rfl) (by kernel_rfl)) ?_
  intro W base args ds gs before hval0 hW hcnd _
  have hval : ∀ (j : Nat) t v, Try.f3.params[j]? = some t → args[j]? = some v → Value.okWide Try.prog W .any base t v := hval0
  have hW' := hW
  obtain ⟨p, q, hA0, hV, rfl, hfz, hnd⟩ := hW
  have hA : DataW.TrodAll enc Try.prog W 0 (fun _ => true) true Try.f3.params.toList args.toList ds p := hA0
  rw [Try.params3] at hA hval
  obtain ⟨v0, vs0, d0, ds0, p0, q0, hargs, rfl, rfl, h0, r0⟩ := trodAll_cons hA
  obtain ⟨v1, vs1, d1, ds1, p1, q1, rfl, rfl, rfl, h1, r1⟩ := trodAll_cons r0
  obtain ⟨rfl, rfl, rfl⟩ := trodAll_nil r1
  obtain rfl : args = #[v0, v1] := by cases args; simp_all
  obtain ⟨rfl, rfl⟩ := trodVars_none hV
  have k0 := h0
  have lt0 : ∀ x ∈ p0, x.block < W.heap.size := by obtain ⟨m, hm⟩ := k0; exact DataW.trod_lt m _ _ _ hm
  obtain ⟨c, rfl, hc, hcc, hkc⟩ := open_conf (hval 0 24 v0 rfl rfl) h0
  have k1 := h1
  have lt1 : ∀ x ∈ p1, x.block < W.heap.size := by obtain ⟨m, hm⟩ := k1; exact DataW.trod_lt m _ _ _ hm
  obtain ⟨al, ll, cl, rfl⟩ := okWide_slice Try.underlying22 (hval 1 22 v1 rfl rfl)
  obtain ⟨l, hcl, hl⟩ : ∃ xs, ll ≤ cl ∧ Ints W W.heap.size al ll xs := by
    obtain ⟨fuel, hf⟩ := h1
    obtain ⟨a, l, c, xs, e, hl, hi⟩ := ints_field (by simpa [Value.cells] using hf)
    injection e with e1 e2 e3
    subst e1 e2 e3
    exact ⟨xs, hl, hi⟩
  clear hA0 hval0
  refine (walk c al ll cl l W hc hcc hkc hl hcl).mono fun e W' ⟨he, bel⟩ => ?_
  subst he
  exact ⟨_, rfl, _, _, _, [], _, [], hW', trodAll_mk1 (shut_bool Try.underlying4 _), (trodAll_cons_mk (Below.trod laidOut (by kernel_rfl) (of_decide_eq_true (by kernel_rfl)) k0 bel lt0) (trodAll_cons_mk (Below.trod laidOut (by kernel_rfl) (of_decide_eq_true (by kernel_rfl)) k1 bel lt1) trodAll_mk0)), rfl, bel.frame _, fun h => by cases h⟩

theorem over : Rows.needPagesRow.holds Try.pinned (OpenSpec.ofChange Rows.needPagesSpec) :=
  OpenClaim.holds_of_wide 3 Try.f3 rfl rfl rfl rfl rfl rfl rfl ⟨rfl, rfl, rfl, rfl, rfl⟩ rfl rfl rfl rfl rfl (by kernel_rfl) Try.func3 (by kernel_rfl)
    (of_decide_eq_true (by kernel_rfl)) (by unfold Func.isWrapper; first | (rw [if_pos (by decide +kernel)]; kernel_rfl) | (rw [if_neg (by decide +kernel)]; exact ⟨rfl, rfl⟩))
    (fun os started H enc _ => lifted os started H enc)

theorem proved : Rows.NeedPagesSaid := over
#print axioms proved
end Go.Proofs.Ytkcdehnpkephgaa.needPages
