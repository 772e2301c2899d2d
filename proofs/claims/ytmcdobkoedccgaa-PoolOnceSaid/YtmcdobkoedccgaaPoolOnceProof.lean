/-
  PoolOnce: a page that is given back twice is refused; one that is taken has its owner until then.
-/
import Derived.Test.YtmcdobkoedccgaaRows
import Derived.WalkKit
import Derived.ProofKit
import Derived.OpenShut
import Derived.Test.YtmcdobkoedccgaaPoolAwake
import Derived.Test.YtmcdobkoedccgaaPoolAll
import Derived.Test.YtmcdobkoedccgaaPoolRunAny
import Derived.Test.YtmcdobkoedccgaaQuietImp
import Derived.Test.YtmcdobkoedccgaaRegImp
import Derived.ShutString
import Derived.ChangeOld
import Derived.Below
namespace Go.Proofs.Ytmcdobkoedccgaa.poolOnce
open Go.ChangeShapes Go.WideShapes Go.ChangeAt Go.RowKit
open Go.ChangeMaps (open_string shut_string)
set_option linter.unusedVariables false

theorem own : ownKnob Try.prog.godebug = none := by kernel_rfl
theorem laidOut : laidOutB Try.prog = true := by kernel_rfl

theorem own_set {K k : Nat} {O fl : List Int} (h : Pw K O fl) (hk : k < K) (x : Int) : ownOut (O.set k x) (k : Int) = x := by
  unfold ownOut
  rw [List.length_set, h.len, if_pos (inB_of hk), Int.toNat_natCast, List.getElem?_set_self (by rw [h.len]; exact hk)]
  rfl

/-! ### The walk -/
set_option maxRecDepth 20000 in
set_option maxHeartbeats 2000000 in
theorem walk (n : Int) (al : Option Addr) (ll cl : Nat) (l : List Ac) (owner : Int) (w : World) (hn : (Lit.int .u8 n).wf = true) (hl : Acts w w.heap.size al ll l) (hcl : ll ≤ cl) (howner : (Lit.int .u16 owner).wf = true) :
    Calls Try.prog 6 #[.int .u8 n, .slice al ll cl, .int .u16 owner] w fun e w' => e = .returned (.bool true) ∧ Below w.heap.size w w' := by
  have hn2 := wf_u8 hn
  have ho2 := wf_u16 howner
  have hmax := hl.max
  clear hn howner
  obtain ⟨r, hr⟩ : ∃ r : Nat, n % 9 = (r : Int) := ⟨(n % 9).toNat, by omega⟩
  have hr2 : n.tmod 9 = (r : Int) := by rw [Int.tmod_eq_emod_of_nonneg (by omega)]; exact hr
  obtain ⟨K, hK⟩ : ∃ K : Nat, K = 1 + r := ⟨_, rfl⟩
  have hKw : IntKind.i64.wrap (1 + (r : Int)) = (K : Int) := by rw [IntWalk.i64_in _ (by omega)]; omega
  have hK1 : 1 ≤ K := by omega
  have hK2 : K ≤ 9 := by omega
  clear hK
  go_enter Try.func6, Try.ntmps6
  go_wp2_with fail
  refine (awake08_any w).mono ?_
  rintro e w0 ⟨rfl, h0⟩
  have H0 := Lib.hid h0
  clear h0
  by_cases hll : 40 < ll
  · have d1 : decide ((40 : Int) < (ll : Int)) = true := by simp; omega
    go_wp2
    go_ret
    exact ⟨rfl, H0.out⟩
  have d1 : decide ((40 : Int) < (ll : Int)) = false := by simp; omega
  have HR := Lib.hid (run08_any K hK1 (by omega) al ll cl l w.heap.size w0 H0.out.size (hl.below H0.out))
  go_wp2_with fail
  refine HR.out.mono ?_
  rintro e w2 ⟨p, a, O, fl, oa, oc, fa, fc, n', P, rfl, m2, r2, b2, ⟨hp, ha⟩, _⟩
  have hb3 := below1 w2 (.cells #[.slice oa K oc, .slice fa n' fc] 27)
  have M3 := Lib.hid (m2.below hb3)
  have B3 := Lib.hid (belowT (belowT H0.out b2) hb3)
  have HP : Hid (w.heap.size ≤ p ∧ w.heap.size ≤ a) := Lib.hid (by have := H0.out.size; omega)
  clear m2 r2 b2 hb3 HR hp ha
  have HH := Lib.hid (held_any M3.out)
  go_wp2_with fail
  generalize w2.alloc (.cells #[.slice oa K oc, .slice fa n' fc] 27) = w3 at M3 B3 HH ⊢
  refine HH.out.mono ?_
  rintro e w4 ⟨rfl, d, rfl⟩
  have hbd : Below w3.heap.size w3 (w3.drewN d) := belowN (Below.refl _ _) d
  have M4 := Lib.hid (M3.out.below hbd)
  have B4 := Lib.hid (belowT B3.out hbd)
  clear hbd HH M3 B3
  generalize w3.drewN d = w4 at M4 B4 ⊢
  cases fl with
  | nil =>
    have HT := Lib.hid (take_none M4.out owner ho2.1)
    go_wp2_with fail
    refine HT.out.mono ?_
    rintro e w5 ⟨rfl, m5, b5⟩
    have HF : Hid (Calls Try.prog 12 #[.pointer (some ⟨p, 0, none⟩)] w5 (R1 0 w5)) := Lib.hid (free_any m5)
    have B5 := Lib.hid (B4.out.trans (Own.below b5 B4.out.size HP.out.1 HP.out.2))
    clear m5 b5 HT
    go_wp2_with fail
    refine HF.out.mono ?_
    rintro e w6 ⟨rfl, rfl⟩
    go_wp2
    go_ret
    exact ⟨rfl, B5.out⟩
  | cons x s =>
    obtain ⟨k, rfl, hk⟩ := M4.out.wf.lt (x := x) (by simp)
    have HT := Lib.hid (take_ok M4.out owner ho2.1 (by unfold Fit; omega))
    have W4 := Lib.hid M4.out.wf
    obtain ⟨q, hq⟩ : ∃ q : Int, q = (K : Int) - (((k : Int) :: s).length : Int) := ⟨_, rfl⟩
    rw [← hq]
    have HQ := Lib.hid hq
    clear hq
    go_wp2_with fail
    refine HT.out.mono ?_
    rintro e w5 ⟨rfl, m5, b5⟩
    have hlen : k < (O.set k owner).length := by rw [List.length_set, W4.out.len]; exact hk
    have HO : Hid (Calls Try.prog 10 #[.pointer (some ⟨p, 0, none⟩), .int .i64 (k : Int)] w5 (R1 owner w5)) := Lib.hid (by
      have := owner_any m5 (k : Int)
      rwa [show ownOut ((O.set k owner, s, (k : Int), (0 : Int)).1) (k : Int) = owner from own_set W4.out hk owner] at this)
    have HG := Lib.hid (give_ok m5 k hk (x := owner) (by show (O.set k owner)[k]? = _; rw [List.getElem?_set_self (by rw [W4.out.len]; exact hk)]) (by omega))
    have B5 := Lib.hid b5
    have M5 := Lib.hid m5
    have eo : (owner == owner) = true := by simp
    clear m5 b5 HT hlen
    go_wp2_with fail
    refine HO.out.mono ?_
    rintro e w6 ⟨rfl, rfl⟩
    go_wp2_with fail
    refine HG.out.mono ?_
    rintro e w6 ⟨rfl, m6, b6⟩
    have HG2 := Lib.hid (give_none m6 k hk (by show ((O.set k owner).set k (-1))[k]? = _; rw [List.getElem?_set_self (by rw [List.length_set, W4.out.len]; exact hk)]))
    have B6 := Lib.hid b6
    clear m6 b6 HG HO
    go_wp2_with fail
    refine HG2.out.mono ?_
    rintro e w7 ⟨rfl, m7, b7⟩
    have HO2 : Hid (Calls Try.prog 10 #[.pointer (some ⟨p, 0, none⟩), .int .i64 (k : Int)] w7 (R1 (-1) w7)) := Lib.hid (by
      have := owner_any m7 (k : Int)
      rwa [show ownOut _ (k : Int) = -1 from own_set M5.out.wf hk (-1)] at this)
    have HH : Hid (Calls Try.prog 13 #[.pointer (some ⟨p, 0, none⟩)] w7 (RQ q w7)) := Lib.hid (by
      rw [HQ.out]
      exact held_any m7)
    have B7 := Lib.hid (B4.out.trans (Own.below ((B5.out.trans B6.out).trans b7) B4.out.size HP.out.1 HP.out.2))
    have eq_ : (q == q) = true := by simp
    clear m7 b7 HG2 M5
    go_wp2_with fail
    refine HO2.out.mono ?_
    rintro e w8 ⟨rfl, rfl⟩
    go_wp2_with fail
    refine HH.out.mono ?_
    rintro e w8 ⟨rfl, d2, rfl⟩
    go_wp2
    go_ret
    exact ⟨rfl, belowN B7.out d2⟩

/-! ### The frame of the row -/
set_option maxRecDepth 100000 in
theorem lifted (os : Os) (started : os.Started) (H : Type) (enc : TypeId × Value → H) :
    ReturnsInHanded {} Try.checked os 6 .any (Rows.poolOnceSpec.pre6 enc Try.prog Try.f6 Rows.poolOnceRow.domain false) (Rows.poolOnceSpec.post enc Try.prog Try.f6 false true false false) := by
  refine returnsInHanded_of_change (C := Try.checked) own started (by kernel_rfl) Try.func6
    (ChangeSpec.witness6 (enc := enc) (C := Try.checked) false ⟨#[], #[.int .u8 0, .slice none 0 0, .int .u16 0], []⟩ 8 (by kernel_rfl) (by kernel_rfl) (by kernel_rfl) (by kernel_rfl)) ?_
  intro W base args ds gs before hval0 hW hcnd _
  have hval : ∀ (j : Nat) t v, Try.f6.params[j]? = some t → args[j]? = some v → Value.okWide Try.prog W .any base t v := hval0
  have hW' := hW
  obtain ⟨p, q, hA0, hV, rfl, hfz, hnd⟩ := hW
  have hA : DataW.TrodAll enc Try.prog W 0 (fun _ => true) true Try.f6.params.toList args.toList ds p := hA0
  rw [Try.params6] at hA hval
  obtain ⟨v0, vs0, d0, ds0, p0, q0, hargs, rfl, rfl, h0, r0⟩ := trodAll_cons hA
  obtain ⟨v1, vs1, d1, ds1, p1, q1, rfl, rfl, rfl, h1, r1⟩ := trodAll_cons r0
  obtain ⟨v2, vs2, d2, ds2, p2, q2, rfl, rfl, rfl, h2, r2⟩ := trodAll_cons r1
  obtain ⟨rfl, rfl, rfl⟩ := trodAll_nil r2
  obtain rfl : args = #[v0, v1, v2] := by cases args; simp_all
  obtain ⟨rfl, rfl⟩ := trodVars_none hV
  obtain ⟨n, rfl, rfl, rfl, hn⟩ := open_int Try.underlying5 (hval 0 5 v0 rfl rfl) h0
  have k1 := h1
  have lt1 : ∀ x ∈ p1, x.block < W.heap.size := by obtain ⟨m, hm⟩ := k1; exact DataW.trod_lt m _ _ _ hm
  obtain ⟨al, ll, cl, rfl⟩ := okWide_slice Try.underlying22 (hval 1 22 v1 rfl rfl)
  obtain ⟨l, hcl, hl⟩ : ∃ xs, ll ≤ cl ∧ Acts W W.heap.size al ll xs := by
    obtain ⟨fuel, hf⟩ := h1
    obtain ⟨a, l, c, xs, e, hl, hi⟩ := acts_field (by simpa [Value.cells] using hf)
    injection e with e1 e2 e3
    subst e1 e2 e3
    exact ⟨xs, hl, hi⟩
  obtain ⟨owner, rfl, rfl, rfl, howner⟩ := open_int Try.underlying44 (hval 2 44 v2 rfl rfl) h2
  clear hA0 hval0
  refine (walk n al ll cl l owner W hn hl hcl howner).mono fun e W' ⟨he, bel⟩ => ?_
  subst he
  exact ⟨_, rfl, _, _, _, [], _, [], hW', trodAll_mk1 (shut_bool Try.underlying4 _), (trodAll_cons_mk (shut_int Try.underlying5 hn) (trodAll_cons_mk (Below.trod laidOut (by kernel_rfl) (of_decide_eq_true (by kernel_rfl)) k1 bel lt1) (trodAll_cons_mk (shut_int Try.underlying44 howner) trodAll_mk0))), rfl, bel.frame _, fun h => by cases h⟩

theorem over : Rows.poolOnceRow.holds Try.pinned (OpenSpec.ofChange Rows.poolOnceSpec) :=
  OpenClaim.holds_of_wide 6 Try.f6 rfl rfl rfl rfl rfl rfl rfl ⟨rfl, rfl, rfl, rfl, rfl⟩ rfl rfl rfl rfl rfl (by kernel_rfl) Try.func6 (by kernel_rfl)
    (of_decide_eq_true (by kernel_rfl)) (by unfold Func.isWrapper; first | (rw [if_pos (by decide +kernel)]; kernel_rfl) | (rw [if_neg (by decide +kernel)]; exact ⟨rfl, rfl⟩))
    (fun os started H enc _ => lifted os started H enc)

theorem proved : Rows.PoolOnceSaid := over
#print axioms proved
end Go.Proofs.Ytmcdobkoedccgaa.poolOnce
