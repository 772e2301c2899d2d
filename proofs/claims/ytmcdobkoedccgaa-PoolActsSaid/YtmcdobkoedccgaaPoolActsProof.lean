/-
  PoolActs: whatever is taken, and given back, of 1 to 9 pages: the law returns true, and the input reads behind the call as it did.
-/
import Derived.Test.YtmcdobkoedccgaaRows
import Derived.WalkKit
import Derived.ProofKit
import Derived.OpenShut
import Derived.Test.YtmcdobkoedccgaaPoolAwake
import Derived.Test.YtmcdobkoedccgaaPoolAll
import Derived.Test.YtmcdobkoedccgaaPoolRunAny
import Derived.Test.YtmcdobkoedccgaaQuietImp
import Derived.Test.YtmcdobkoedccgaaRegImp
import Derived.ShutString
import Derived.ChangeOld
import Derived.Below
namespace Go.Proofs.Ytmcdobkoedccgaa.poolActs
open Go.ChangeShapes Go.WideShapes Go.ChangeAt Go.RowKit
open Go.ChangeMaps (open_string shut_string)
set_option linter.unusedVariables false

theorem own : ownKnob Try.prog.godebug = none := by kernel_rfl
theorem laidOut : laidOutB Try.prog = true := by kernel_rfl

theorem keep2 {w w' : World} (hb : Below w.heap.size w w') {p0 p1 : Addr} {x0 x1 : Value}
    (h : w.cell? p0 = some x0 ∧ w.cell? p1 = some x1) : w'.cell? p0 = some x0 ∧ w'.cell? p1 = some x1 :=
  ⟨(hb.cell (lt_of_cell h.1)).trans h.1, (hb.cell (lt_of_cell h.2)).trans h.2⟩
theorem quietQ {f : FuncId} {args : Array Value} {w : World} {n : Nat} {v : Value}
    (h : Calls Try.prog f args (w.drewN n) fun e w' => e = .returned v ∧ ∃ k, w' = (w.drewN n).drewN k) : Calls Try.prog f args (w.drewN n) fun e w'' => e = .returned v ∧ ∃ m, w'' = w.drewN m :=
  h.mono fun _ _ ⟨he, k, hk⟩ => ⟨he, n + k, by rw [hk]; simp [World.drewN, Nat.add_assoc]⟩

/-! ### The walk -/
set_option maxRecDepth 20000 in
set_option maxHeartbeats 2000000 in
theorem walk (n : Int) (al : Option Addr) (ll cl : Nat) (l : List Ac) (w : World) (hn : (Lit.int .u8 n).wf = true) (hl : Acts w w.heap.size al ll l) (hcl : ll ≤ cl) :
    Calls Try.prog 3 #[.int .u8 n, .slice al ll cl] w fun e w' => e = .returned (.bool true) ∧ Below w.heap.size w w' := by
  have hn2 := wf_u8 hn
  have hmax := hl.max
  clear hn
  obtain ⟨r, hr⟩ : ∃ r : Nat, n % 9 = (r : Int) := ⟨(n % 9).toNat, by omega⟩
  have hr2 : n.tmod 9 = (r : Int) := by rw [Int.tmod_eq_emod_of_nonneg (by omega)]; exact hr
  obtain ⟨K, hK⟩ : ∃ K : Nat, K = 1 + r := ⟨_, rfl⟩
  have hKw : IntKind.i64.wrap (1 + (r : Int)) = (K : Int) := by rw [IntWalk.i64_in _ (by omega)]; omega
  have hK1 : 1 ≤ K := by omega
  have hK2 : K ≤ 9 := by omega
  clear hK
  go_enter Try.func3, Try.ntmps3
  go_wp2_with fail
  refine (awake08_any w).mono ?_
  rintro e w0 ⟨rfl, h0⟩
  have H0 := Lib.hid h0
  clear h0
  by_cases hll : 40 < ll
  · have d1 : decide ((40 : Int) < (ll : Int)) = true := by simp; omega
    go_wp2
    go_ret
    exact ⟨rfl, H0.out⟩
  have d1 : decide ((40 : Int) < (ll : Int)) = false := by simp; omega
  have HR := Lib.hid (run08_any K hK1 (by omega) al ll cl l w.heap.size w0 H0.out.size (hl.below H0.out))
  go_wp2_with fail
  refine HR.out.mono ?_
  rintro e w2 ⟨p, a, O, fl, oa, oc, fa, fc, n', P, rfl, m2, r2, b2, _, _⟩
  have hb3 := below1 w2 (.cells #[.slice oa K oc, .slice fa n' fc] 27)
  have M3 := Lib.hid (m2.below hb3)
  have R3 := Lib.hid (r2.on hb3)
  have B3 := Lib.hid (belowT (belowT H0.out b2) hb3)
  have X3 := Lib.hid (Bv.new w2 oa K oc fa n' fc)
  have HLn : Hid (fl.length = n') := Lib.hid r2.free.len
  have hnK : n' ≤ K := by rw [← r2.free.len]; exact m2.wf.few
  clear m2 r2 b2 hb3 HR
  go_wp2
  generalize w2.alloc (.cells #[.slice oa K oc, .slice fa n' fc] 27) = w3 at M3 R3 B3 X3 ⊢
  generalize w2.heap.size = g at X3 ⊢
  go_loopw [10] (fun i wr => ∃ z : Int, -1 ≤ z ∧ z ≤ (K : Int) + 1 ∧ i = .int .i64 z ∧ Below w3.heap.size w3 wr) (fun i _ => ((K : Int) + 1 - intOf i).toNat)
  case atStart => exact ⟨-1, by omega, by omega, rfl, Below.refl _ _⟩
  case round =>
    obtain ⟨z, hz0, hz1, rfl, hb⟩ := hrel
    have HBB := Lib.hid hb
    obtain ⟨p0, p1, p2, p3⟩ := X3.out.below hb
    clear hb
    by_cases hlt : z ≤ (K : Int)
    · have dk : decide (z ≤ (K : Int)) = true := by simpa using hlt
      have HO := Lib.hid (fun v (hv : Below w3.heap.size w3 v) => owner_any (M3.out.below hv) z)
      have HO2 := Lib.hid (fun v (hv : Below w3.heap.size w3 v) => refOwner_any (R3.out.on hv) z)
      generalize ownOut O z = f1 at HO HO2
      have t1 : (f1 != f1) = false := by simp
      have S0 := Lib.hid (show wr.cell? ⟨g, 0, none⟩ = some (.slice oa K oc) ∧ wr.cell? ⟨g, 1, none⟩ = some (.slice fa n' fc) from ⟨p0, p1⟩)
      go_wp2_with fail
      go_region_held3 (fun w' => w'.cell? ⟨g, 0, none⟩ = some (.slice oa K oc) ∧ w'.cell? ⟨g, 1, none⟩ = some (.slice fa n' fc))
        (first | exact S0.out | exact S2 | go_keep)
        (first
          | (go_at_call 10; refine (HO.out _ ?_).mono ?_; (first | exact belowD HBB.out | exact B2); rintro e w3 ⟨rfl, rfl⟩)
          | (go_at_call 11; refine (HO2.out _ ?_).mono ?_; (first | exact belowD HBB.out); rintro e w2 ⟨rfl, b2⟩; have B2 := belowT (belowD HBB.out) b2; have S2 := keep2 (w := wr.drew) b2 S0.out))
      all_goals
        go_wp2
        go_roundw
        case rel => exact ⟨z + 1, by omega, by omega, by go_num, B2⟩
        case measure => simp [intOf]; omega
    · have dk : decide (z ≤ (K : Int)) = false := by simpa using hlt
      have HF := Lib.hid (fun d => free_any ((M3.out.below HBB.out).below (belowN (Below.refl _ _) d)))
      have HH := Lib.hid (fun d => held_any ((M3.out.below HBB.out).below (belowN (Below.refl _ _) d)))
      rw [HLn.out] at HF HH
      have e1 : ((n' : Int) == (n' : Int)) = true := by simp
      have hw : IntKind.i64.wrap ((K : Int) - (n' : Int)) = (K : Int) - (n' : Int) := IntWalk.i64_in _ (by omega)
      have e2 : (((K : Int) - (n' : Int)) == ((K : Int) - (n' : Int))) = true := by simp
      go_wp2_with fail
      go_quiet ((first
        | (go_at_call 12; exact quiet1 (HF.out _))
        | (go_at_call 13; exact quietQ (HH.out _))))
      go_wp2
      go_ret
      exact ⟨rfl, belowN (belowT B3.out HBB.out) _⟩

/-! ### The frame of the row -/
set_option maxRecDepth 100000 in
theorem lifted (os : Os) (started : os.Started) (H : Type) (enc : TypeId × Value → H) :
    ReturnsInHanded {} Try.checked os 3 .any (Rows.poolActsSpec.pre6 enc Try.prog Try.f3 Rows.poolActsRow.domain false) (Rows.poolActsSpec.post enc Try.prog Try.f3 false true false false) := by
  refine returnsInHanded_of_change (C := Try.checked) own started (by kernel_rfl) Try.func3
    (ChangeSpec.witness6 (enc := enc) (C := Try.checked) false ⟨#[], #[.int .u8 0, .slice none 0 0], []⟩ 8 (by kernel_rfl) (by kernel_rfl) (by kernel_rfl) (by kernel_rfl)) ?_
  intro W base args ds gs before hval0 hW hcnd _
  have hval : ∀ (j : Nat) t v, Try.f3.params[j]? = some t → args[j]? = some v → Value.okWide Try.prog W .any base t v := hval0
  have hW' := hW
  obtain ⟨p, q, hA0, hV, rfl, hfz, hnd⟩ := hW
  have hA : DataW.TrodAll enc Try.prog W 0 (fun _ => true) true Try.f3.params.toList args.toList ds p := hA0
  rw [Try.params3] at hA hval
  obtain ⟨v0, vs0, d0, ds0, p0, q0, hargs, rfl, rfl, h0, r0⟩ := trodAll_cons hA
  obtain ⟨v1, vs1, d1, ds1, p1, q1, rfl, rfl, rfl, h1, r1⟩ := trodAll_cons r0
  obtain ⟨rfl, rfl, rfl⟩ := trodAll_nil r1
  obtain rfl : args = #[v0, v1] := by cases args; simp_all
  obtain ⟨rfl, rfl⟩ := trodVars_none hV
  obtain ⟨n, rfl, rfl, rfl, hn⟩ := open_int Try.underlying5 (hval 0 5 v0 rfl rfl) h0
  have k1 := h1
  have lt1 : ∀ x ∈ p1, x.block < W.heap.size := by obtain ⟨m, hm⟩ := k1; exact DataW.trod_lt m _ _ _ hm
  obtain ⟨al, ll, cl, rfl⟩ := okWide_slice Try.underlying22 (hval 1 22 v1 rfl rfl)
  obtain ⟨l, hcl, hl⟩ : ∃ xs, ll ≤ cl ∧ Acts W W.heap.size al ll xs := by
    obtain ⟨fuel, hf⟩ := h1
    obtain ⟨a, l, c, xs, e, hl, hi⟩ := acts_field (by simpa [Value.cells] using hf)
    injection e with e1 e2 e3
    subst e1 e2 e3
    exact ⟨xs, hl, hi⟩
  clear hA0 hval0
  refine (walk n al ll cl l W hn hl hcl).mono fun e W' ⟨he, bel⟩ => ?_
  subst he
  exact ⟨_, rfl, _, _, _, [], _, [], hW', trodAll_mk1 (shut_bool Try.underlying4 _), (trodAll_cons_mk (shut_int Try.underlying5 hn) (trodAll_cons_mk (Below.trod laidOut (by kernel_rfl) (of_decide_eq_true (by kernel_rfl)) k1 bel lt1) trodAll_mk0)), rfl, bel.frame _, fun h => by cases h⟩

theorem over : Rows.poolActsRow.holds Try.pinned (OpenSpec.ofChange Rows.poolActsSpec) :=
  OpenClaim.holds_of_wide 3 Try.f3 rfl rfl rfl rfl rfl rfl rfl ⟨rfl, rfl, rfl, rfl, rfl⟩ rfl rfl rfl rfl rfl (by kernel_rfl) Try.func3 (by kernel_rfl)
    (of_decide_eq_true (by kernel_rfl)) (by unfold Func.isWrapper; first | (rw [if_pos (by decide +kernel)]; kernel_rfl) | (rw [if_neg (by decide +kernel)]; exact ⟨rfl, rfl⟩))
    (fun os started H enc _ => lifted os started H enc)

theorem proved : Rows.PoolActsSaid := over
#print axioms proved
end Go.Proofs.Ytmcdobkoedccgaa.poolActs
