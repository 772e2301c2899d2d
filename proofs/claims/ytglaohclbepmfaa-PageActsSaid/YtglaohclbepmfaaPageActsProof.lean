/-
  PageActs: whatever is taken, given back, and handed on (40 times at most), of 1 to 12 blocks: which block, or what is wrong, and what is told of all blocks behind each. No condition.
-/
import Derived.Test.YtglaohclbepmfaaRows
import Derived.WalkKit
import Derived.ProofKit
import Derived.OpenShut
import Derived.Test.YtglaohclbepmfaaPageRun
import Derived.ShutString
import Derived.ChangeOld
import Derived.Below
namespace Go.Proofs.Ytglaohclbepmfaa.pageActs
open Go.ChangeShapes Go.WideShapes Go.ChangeAt Go.RowKit
open Go.ChangeMaps (open_string shut_string)
set_option linter.unusedVariables false

theorem own : ownKnob Try.prog.godebug = none := by kernel_rfl
theorem laidOut : laidOutB Try.prog = true := by kernel_rfl

/-! ### The walk -/
set_option maxRecDepth 20000 in
set_option maxHeartbeats 2000000 in
theorem walk (n : Int) (al : Option Addr) (ll cl : Nat) (l : List Ac) (w : World) (hn : (Lit.int .u8 n).wf = true) (hl : Acts w w.heap.size al ll l) (hcl : ll ≤ cl) :
    Calls Try.prog 3 #[.int .u8 n, .slice al ll cl] w fun e w' => e = .returned (.bool true) ∧ Below w.heap.size w w' := by
  have hmax := hl.max
  have A := Lib.hid (awake12_any w)
  have n12 := wfu8 hn
  obtain ⟨K, hK⟩ : ∃ K : Nat, 1 + n % 12 = (K : Int) := ⟨(1 + n % 12).toNat, by omega⟩
  have hK1 : 1 ≤ K := by omega
  have hK2 : K ≤ 12 := by omega
  have hm : n.tmod 12 = (K : Int) - 1 := by rw [Int.tmod_eq_emod_of_nonneg (by omega)]; omega
  have hm2 : n % 12 = (K : Int) - 1 := by omega
  have wK : IntKind.i64.wrap (1 + ((K : Int) - 1)) = (K : Int) := by rw [IntWalk.i64_in _ (by omega)]; omega
  have wn : IntKind.i64.wrap n = n := IntWalk.i64_in _ (by omega)
  have HN := Lib.hid (pageNew_ok (K : Int) (by omega) (by omega))
  have HNR := Lib.hid (refPageNew_ok K (by omega) (by omega))
  clear hK hn n12
  go_enter Try.func3, Try.ntmps3
  go_wp2_with fail
  refine A.out.mono ?_
  rintro e w0 ⟨rfl, h0⟩
  have H0 := Lib.hid h0
  clear h0
  by_cases hll : 40 < ll
  · have d1 : decide ((40 : Int) < (ll : Int)) = true := by simp; omega
    go_wp2
    go_ret
    exact ⟨rfl, H0.out⟩
  have d1 : decide ((40 : Int) < (ll : Int)) = false := by simp; omega
  go_wp2_with fail
  refine (HN.out w0).mono ?_
  rintro e w1 ⟨p, b, m, rfl, r1, b1, lp, lb, lm⟩
  rw [Int.toNat_natCast] at r1
  have B1 := Lib.hid (belowT H0.out b1)
  have R1' := Lib.hid r1
  have HP : Hid (w.heap.size ≤ b ∧ w.heap.size ≤ m) := Lib.hid (by have := H0.out.size; omega)
  clear r1 b1 HN A hm hm2 wK wn lp lb lm H0
  go_wp2_with fail
  refine (HNR.out w1).mono ?_
  rintro e w2 ⟨g, c, rfl, s2, l2, b2⟩
  have S2 : Hid (Ps w p b m g K (List.replicate K (-1)) w2) := Lib.hid ⟨belowT B1.out b2, R1'.out.below b2, s2, by
    obtain ⟨g', o, e, hg, _⟩ := s2.head hK1
    injection e with e
    injection e with e1 e2
    subst e1
    exact hg, by have := R1'.out.bm.size; omega, by have := R1'.out.om.lt; omega⟩
  clear s2 b2 l2 HNR R1' B1
  go_wp2
  go_loopw [9, 11] (fun x i wr => ∃ (k g c : Nat) (X : List Int), k ≤ ll ∧ i = .int .i64 k ∧ x = .slice (some ⟨g, 0, none⟩) K c ∧ Hid (Ps w p b m g K X wr)) (fun _ i _ => ll - (intOf i).toNat)
  case atStart => exact ⟨0, g, c, _, by omega, rfl, rfl, S2⟩
  case round =>
    obtain ⟨k, g, c, X, hk, rfl, rfl, HS⟩ := hrel
    clear S2
    by_cases hlt : k < ll
    · have dk : decide ((k : Int) < (ll : Int)) = true := by simp; omega
      have U1 := Lib.hid (hl.below HS.out.below)
      obtain ⟨b0, o0, rfl, hb0, hc0⟩ := U1.out.head (by omega)
      obtain ⟨u, hu, hfit⟩ := U1.out.at_ hlt
      have k0 : wr.cell? ⟨b0, o0 + k * 3, none⟩ = some (.int .u8 u.kind) := hc0 k u hu 0 _ rfl
      have k1 : wr.cell? ⟨b0, o0 + k * 3 + 1, none⟩ = some (.int .i64 u.at_) := hc0 k u hu 1 _ rfl
      have k2 : wr.cell? ⟨b0, o0 + k * 3 + 2, none⟩ = some (.int .i64 u.own) := hc0 k u hu 2 _ rfl
      have HB0 := Lib.hid hb0
      obtain ⟨kind, at_, own⟩ := u
      simp only at k0 k1 k2
      have HC := Lib.hid (do12_any HS.out.pm kind at_ own hfit)
      have HC2 : Hid (∀ v, Ints v v.heap.size (some ⟨g, 0, none⟩) K X → Calls Try.prog 12 #[.slice (some ⟨g, 0, none⟩) K c, .agg #[.int .u8 kind, .int .i64 at_, .int .i64 own]] v (RefP3 K g (actX X ⟨kind, at_, own⟩) (actA X ⟨kind, at_, own⟩) (actE X ⟨kind, at_, own⟩) v)) := Lib.hid (fun v hv => refDo_any hv (by omega) kind at_ own hfit)
      clear hc0 hu hb0 U1 hfit
      generalize actE X ⟨kind, at_, own⟩ = z at HC HC2
      generalize actA X ⟨kind, at_, own⟩ = y at HC HC2
      generalize actX X ⟨kind, at_, own⟩ = X' at HC HC2
      have e1 : (z != z) = false := by simp
      have e2 : (y != y) = false := by simp
      go_wp2_with fail
      refine HC.out.mono ?_
      rintro e w4 ⟨rfl, r4, b4⟩
      have R4 := Lib.hid r4
      have B4 := Lib.hid b4
      have KB : Hid (Below w.heap.size wr w4) := Lib.hid (b4.below HS.out.below.size (fun i hi q => by have := HP.out; omega))
      have k0' := (KB.out.cell (p := ⟨b0, o0 + k * 3, none⟩) HB0.out).trans k0
      have k1' := (KB.out.cell (p := ⟨b0, o0 + k * 3 + 1, none⟩) HB0.out).trans k1
      have k2' := (KB.out.cell (p := ⟨b0, o0 + k * 3 + 2, none⟩) HB0.out).trans k2
      have HC3 := Lib.hid (HC2.out w4 (HS.out.half b4))
      clear r4 b4 HC HC2 k0 k1 k2 KB
      go_wp2_with fail
      refine HC3.out.mono ?_
      rintro e w5 ⟨g', c', rfl, s5, q5, b5⟩
      have SN := Lib.hid (HS.out.next HP.out.1 HP.out.2 R4.out B4.out hK1 s5 q5 b5)
      clear s5 q5 b5 HC3 k0' k1' k2' R4 B4 HS
      have HA := Lib.hid (same12_any (c := c') SN.out.pm SN.out.is)
      go_wp2_with fail
      refine HA.out.mono ?_
      rintro e w6 ⟨rfl, b6⟩
      have SN2 := Lib.hid (SN.out.grow b6)
      clear b6 SN HA
      go_wp2
      go_roundw
      case rel => exact ⟨k + 1, g', c', X', by omega, by go_num, rfl, SN2⟩
      case measure => simp [intOf]; omega
    · have dk : decide ((k : Int) < (ll : Int)) = false := by simp; omega
      have HA := Lib.hid (same12_any (c := c) HS.out.pm HS.out.is)
      have HB := Lib.hid HS.out.below
      clear HS
      go_wp2_with fail
      refine HA.out.mono ?_
      rintro e w8 ⟨rfl, b8⟩
      have HB2 := Lib.hid (belowT HB.out b8)
      clear b8
      go_wp2
      go_ret
      exact ⟨rfl, HB2.out⟩

/-! ### The frame of the row -/
set_option maxRecDepth 100000 in
theorem lifted (os : Os) (started : os.Started) (H : Type) (enc : TypeId × Value → H) :
    ReturnsInHanded {} Try.checked os 3 .any (Rows.pageActsSpec.pre6 enc Try.prog Try.f3 Rows.pageActsRow.domain false) (Rows.pageActsSpec.post enc Try.prog Try.f3 false true false false) := by
  refine returnsInHanded_of_change (C := Try.checked) own started (by kernel_rfl) Try.func3
    (ChangeSpec.witness6 (enc := enc) (C := Try.checked) false ⟨#[], #[.int .u8 0, .slice none 0 0], []⟩ 8 (by kernel_rfl) (by kernel_rfl) (by kernel_rfl) (by kernel_rfl)) ?_
  intro W base args ds gs before hval0 hW hcnd _
  have hval : ∀ (j : Nat) t v, Try.f3.params[j]? = some t → args[j]? = some v → Value.okWide Try.prog W .any base t v := hval0
  have hW' := hW
  obtain ⟨p, q, hA0, hV, rfl, hfz, hnd⟩ := hW
  have hA : DataW.TrodAll enc Try.prog W 0 (fun _ => true) true Try.f3.params.toList args.toList ds p := hA0
  rw [Try.params3] at hA hval
  obtain ⟨v0, vs0, d0, ds0, p0, q0, hargs, rfl, rfl, h0, r0⟩ := trodAll_cons hA
  obtain ⟨v1, vs1, d1, ds1, p1, q1, rfl, rfl, rfl, h1, r1⟩ := trodAll_cons r0
  obtain ⟨rfl, rfl, rfl⟩ := trodAll_nil r1
  obtain rfl : args = #[v0, v1] := by cases args; simp_all
  obtain ⟨rfl, rfl⟩ := trodVars_none hV
  obtain ⟨n, rfl, rfl, rfl, hn⟩ := open_int Try.underlying5 (hval 0 5 v0 rfl rfl) h0
  have k1 := h1
  have lt1 : ∀ x ∈ p1, x.block < W.heap.size := by obtain ⟨m, hm⟩ := k1; exact DataW.trod_lt m _ _ _ hm
  obtain ⟨al, ll, cl, rfl⟩ := okWide_slice Try.underlying22 (hval 1 22 v1 rfl rfl)
  obtain ⟨l, hcl, hl⟩ : ∃ xs, ll ≤ cl ∧ Acts W W.heap.size al ll xs := by
    obtain ⟨fuel, hf⟩ := h1
    obtain ⟨a, l, c, xs, e, hl, hi⟩ := acts_field (by simpa [Value.cells] using hf)
    injection e with e1 e2 e3
    subst e1 e2 e3
    exact ⟨xs, hl, hi⟩
  clear hA0 hval0
  refine (walk n al ll cl l W hn hl hcl).mono fun e W' ⟨he, bel⟩ => ?_
  subst he
  exact ⟨_, rfl, _, _, _, [], _, [], hW', trodAll_mk1 (shut_bool Try.underlying4 _), (trodAll_cons_mk (shut_int Try.underlying5 hn) (trodAll_cons_mk (Below.trod laidOut (by kernel_rfl) (of_decide_eq_true (by kernel_rfl)) k1 bel lt1) trodAll_mk0)), rfl, bel.frame _, fun h => by cases h⟩

theorem over : Rows.pageActsRow.holds Try.pinned (OpenSpec.ofChange Rows.pageActsSpec) :=
  OpenClaim.holds_of_wide 3 Try.f3 rfl rfl rfl rfl rfl rfl rfl ⟨rfl, rfl, rfl, rfl, rfl⟩ rfl rfl rfl rfl rfl (by kernel_rfl) Try.func3 (by kernel_rfl)
    (of_decide_eq_true (by kernel_rfl)) (by unfold Func.isWrapper; first | (rw [if_pos (by decide +kernel)]; kernel_rfl) | (rw [if_neg (by decide +kernel)]; exact ⟨rfl, rfl⟩))
    (fun os started H enc _ => lifted os started H enc)

theorem proved : Rows.PageActsSaid := over
#print axioms proved
end Go.Proofs.Ytglaohclbepmfaa.pageActs
