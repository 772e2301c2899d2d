/-
  ArenaCopies: whatever bytes and whatever places come in, the law returns true, and the input reads behind the call as it did.
-/
import Derived.Test.YtnopeifgcpibaaaRows
import Derived.WalkKit
import Derived.ProofKit
import Derived.OpenShut
import Derived.Test.YtnopeifgcpibaaaArenaAwake
import Derived.Test.YtnopeifgcpibaaaArenaMade
import Derived.Test.YtnopeifgcpibaaaBytesOpen
import Derived.ShutString
import Derived.ChangeOld
import Derived.Below
namespace Go.Proofs.Ytnopeifgcpibaaa.arenaCopies
open Go.ChangeShapes Go.WideShapes Go.ChangeAt Go.RowKit
open Go.ChangeMaps (open_string shut_string)
set_option linter.unusedVariables false

theorem own : ownKnob Try.prog.godebug = none := by kernel_rfl
theorem laidOut : laidOutB Try.prog = true := by kernel_rfl

/-! ### The walk -/
theorem walk (ab : Option Addr) (lb cb : Nat) (b : List Int) (n : Int) (l0 l1 : Int) (w : World) (hb : Bytes w w.heap.size ab lb b) (hcb : lb ≤ cb) (hn : (Lit.int .u8 n).wf = true) (hl0 : 0 ≤ l0 ∧ l0 ≤ 255) (hl1 : 0 ≤ l1 ∧ l1 ≤ 255) :
    Calls Try.prog 6 #[.slice ab lb cb, .int .u8 n, .agg #[.int .u8 l0, .int .u8 l1]] w fun e w' => e = .returned (.bool true) ∧ Below w.heap.size w w' := by
  have hmax := hb.max
  have hn2 := wf_u8 hn
  clear hn
  have c0 : (w.alloc (.cells #[.int .u8 l0, .int .u8 l1] 50)).cell? ⟨w.heap.size, 0, none⟩ = some (.int .u8 l0) := by go_simp
  have c1 : (w.alloc (.cells #[.int .u8 l0, .int .u8 l1] 50)).cell? ⟨w.heap.size, 1, none⟩ = some (.int .u8 l1) := by go_simp
  have bx := below1 w (.cells #[.int .u8 l0, .int .u8 l1] 50)
  go_enter Try.func6, Try.ntmps6
  go_wp2_with fail
  refine (awake06_any (w.alloc (.cells #[.int .u8 l0, .int .u8 l1] 50))).mono ?_
  rintro e w0 ⟨rfl, h0⟩
  have d0 := (h0.cell (p := ⟨w.heap.size, 0, none⟩) (by simp)).trans c0
  have d1 := (h0.cell (p := ⟨w.heap.size, 1, none⟩) (by simp)).trans c1
  have H0 := Lib.hid (belowT bx h0)
  clear c0 c1 bx h0
  by_cases h128 : lb = 128
  · subst h128
    obtain ⟨K, hK⟩ : ∃ K : Nat, l0 % 65 = (K : Int) := ⟨(l0 % 65).toNat, by omega⟩
    have hK2 : l0.tmod 65 = (K : Int) := by rw [Int.tmod_eq_emod_of_nonneg (by omega)]; exact hK
    have hK64 : K ≤ 64 := by omega
    obtain ⟨D, hD⟩ : ∃ D : Nat, D = 129 - K := ⟨_, rfl⟩
    have hDw : IntKind.i64.wrap (129 - (K : Int)) = (D : Int) := by rw [IntWalk.i64_in _ (by omega)]; omega
    have hDp : (0 : Int) < (D : Int) := by omega
    have hD0 : ((D : Int) == 0) = false := by simp; omega
    have hDz : ¬ (D : Int) = 0 := by omega
    have T0 := Int.emod_nonneg n hDz
    have T1 := Int.emod_lt_of_pos n hDp
    have F0 := Int.emod_nonneg l1 hDz
    have F1 := Int.emod_lt_of_pos l1 hDp
    obtain ⟨T, hT⟩ : ∃ T : Nat, n % (D : Int) = (T : Int) := ⟨(n % (D : Int)).toNat, by omega⟩
    obtain ⟨F, hF⟩ : ∃ F : Nat, l1 % (D : Int) = (F : Int) := ⟨(l1 % (D : Int)).toNat, by omega⟩
    have hT2 : n.tmod (D : Int) = (T : Int) := by rw [Int.tmod_eq_emod_of_nonneg (by omega)]; exact hT
    have hF2 : l1.tmod (D : Int) = (F : Int) := by rw [Int.tmod_eq_emod_of_nonneg (by omega)]; exact hF
    have hTK : T + K ≤ 128 := by omega
    have hFK : F + K ≤ 128 := by omega
    clear T0 T1 F0 F1 hD
    go_wp2_with fail
    refine (arenaNew_ok 2 64 none 0 0 w0 (by decide) (Mo.nobody _ _ _) (fun q e => by cases e)).mono ?_
    rintro e w1 ⟨p, q, rfl, a1, b1, hp, hq⟩
    have B1 := Lib.hid (belowT H0.out b1)
    have HW := Lib.hid (write_whole (c := cb) a1 (by simp) (hb.below B1.out) B1.out.size (fun g e => by cases e))
    have HQ := Lib.hid (Nat.le_trans H0.out.size hq)
    clear a1 b1 hp hq d0 d1 hT hF hK
    go_wp2_with fail
    refine HW.out.mono ?_
    rintro e w2 ⟨rfl, a2, b2⟩
    have B2 := Lib.hid (B1.out.trans (Ar.mine b2 B1.out.size HQ.out (fun g e => by cases e)))
    have HC := Lib.hid (copy_ok a2 T F K (by rw [hb.len]; exact hTK) (by rw [hb.len]; exact hFK))
    clear a2 b2 HW B1
    go_wp2_with fail
    refine HC.out.mono ?_
    rintro e w3 ⟨rfl, a3, b3⟩
    have hlen : (splice b T (sub b F K)).length = 128 := by
      rw [length_splice _ _ _ (by rw [length_sub _ _ _ (by rw [hb.len]; exact hFK), hb.len]; exact hTK), hb.len]
    have B3 := Lib.hid (B2.out.trans (Ar.mine b3 B2.out.size HQ.out (fun g e => by cases e)))
    have HR := Lib.hid (read_whole a3 hlen)
    clear a3 b3 HC B2
    go_wp2_with fail
    refine HR.out.mono ?_
    rintro e w4 ⟨g, rfl, r4, a4, b4, hg⟩
    have B4 := Lib.hid (B3.out.trans (Ar.mine b4 B3.out.size HQ.out (fun g e => by cases e)))
    have R4 := Lib.hid r4
    clear a4 b4 hg HR r4 B3
    have HY := Lib.hid (hb.below B4.out)
    go_wp2
    go_loopw [16] (fun i wr => ∃ k : Nat, k ≤ 128 ∧ i = .int .i64 k ∧ wr = w4) (fun i _ => 128 - (intOf i).toNat)
    case atStart => exact ⟨0, by omega, rfl, rfl⟩
    case round =>
      obtain ⟨k, hk, rfl, rfl⟩ := hrel
      by_cases hlt : k < 128
      · have dk : decide ((k : Int) < 128) = true := by simp; omega
        obtain ⟨x, hx, x0, x1⟩ := HY.out.at_ hlt
        obtain ⟨b0, o0, rfl, hb0, hcell⟩ := HY.out.head (by omega)
        have hcx := hcell k x hx
        have hg := splice_get b T (sub b F K) (by rw [length_sub _ _ _ (by rw [hb.len]; exact hFK), hb.len]; exact hTK) k
        rw [length_sub _ _ _ (by rw [hb.len]; exact hFK)] at hg
        have hw1 : IntKind.i64.wrap ((T : Int) + (K : Int)) = (T : Int) + (K : Int) := IntWalk.i64_in _ (by omega)
        by_cases hin : T ≤ k ∧ k < T + K
        · obtain ⟨M, hM⟩ : ∃ M, M = F + k - T := ⟨_, rfl⟩
          obtain ⟨y, hy, y0, y1⟩ := HY.out.at_ (k := M) (by omega)
          have hcy := hcell M y hy
          have e1 : decide ((T : Int) ≤ (k : Int)) = true := by simp; omega
          have e2 : decide ((k : Int) < (T : Int) + (K : Int)) = true := by simp; omega
          have hw2 : IntKind.i64.wrap ((F : Int) + (k : Int)) = (F : Int) + (k : Int) := IntWalk.i64_in _ (by omega)
          have hw3 : IntKind.i64.wrap ((F : Int) + (k : Int) - (T : Int)) = (M : Int) := by rw [IntWalk.i64_in _ (by omega)]; omega
          rw [if_neg (by omega), if_pos (by omega), sub_get (by omega), show F + (k - T) = M by omega, hy] at hg
          have hcg := R4.out.cell k y hg
          have hM2 : M < 128 := by omega
          clear hcell hg hx hy hM
          go_wp2
          go_roundw
          case rel => exact ⟨k + 1, by omega, by go_num, trivial⟩
          case measure => simp [intOf]; omega
        · have hcg : wr.cell? ⟨g, k, none⟩ = some (.int .u8 x) := by
            refine R4.out.cell k x (hg.trans ?_)
            by_cases q : k < T
            · rw [if_pos q]; exact hx
            · rw [if_neg q, if_neg (by omega)]; exact hx
          clear hcell hg hx
          by_cases q : T ≤ k
          · have e1 : decide ((T : Int) ≤ (k : Int)) = true := by simp; omega
            have e2 : decide ((k : Int) < (T : Int) + (K : Int)) = false := by simp; omega
            go_wp2
            go_roundw
            case rel => exact ⟨k + 1, by omega, by go_num, trivial⟩
            case measure => simp [intOf]; omega
          · have e1 : decide ((T : Int) ≤ (k : Int)) = false := by simp; omega
            go_wp2
            go_roundw
            case rel => exact ⟨k + 1, by omega, by go_num, trivial⟩
            case measure => simp [intOf]; omega
      · have dk : decide ((k : Int) < 128) = false := by simp; omega
        go_wp2
        go_ret
        exact ⟨rfl, B4.out⟩
  · have d : (((lb : Int)) != 128) = true := by simp; omega
    go_wp2
    go_ret
    exact ⟨rfl, H0.out⟩

/-! ### The frame of the row -/
set_option maxRecDepth 100000 in
theorem lifted (os : Os) (started : os.Started) (H : Type) (enc : TypeId × Value → H) :
    ReturnsInHanded {} Try.checked os 6 .any (Rows.arenaCopiesSpec.pre6 enc Try.prog Try.f6 Rows.arenaCopiesRow.domain false) (Rows.arenaCopiesSpec.post enc Try.prog Try.f6 false true false false) := by
  refine returnsInHanded_of_change (C := Try.checked) own started (by kernel_rfl) Try.func6
    (ChangeSpec.witness6 (enc := enc) (C := Try.checked) false ⟨#[], #[.slice none 0 0, .int .u8 0, .agg #[.int .u8 0, .int .u8 0]], []⟩ 8 (by kernel_rfl) (by kernel_rfl) (by kernel_rfl) (by kernel_rfl)) ?_
  intro W base args ds gs before hval0 hW hcnd _
  have hval : ∀ (j : Nat) t v, Try.f6.params[j]? = some t → args[j]? = some v → Value.okWide Try.prog W .any base t v := hval0
  have hW' := hW
  obtain ⟨p, q, hA0, hV, rfl, hfz, hnd⟩ := hW
  have hA : DataW.TrodAll enc Try.prog W 0 (fun _ => true) true Try.f6.params.toList args.toList ds p := hA0
  rw [Try.params6] at hA hval
  obtain ⟨v0, vs0, d0, ds0, p0, q0, hargs, rfl, rfl, h0, r0⟩ := trodAll_cons hA
  obtain ⟨v1, vs1, d1, ds1, p1, q1, rfl, rfl, rfl, h1, r1⟩ := trodAll_cons r0
  obtain ⟨v2, vs2, d2, ds2, p2, q2, rfl, rfl, rfl, h2, r2⟩ := trodAll_cons r1
  obtain ⟨rfl, rfl, rfl⟩ := trodAll_nil r2
  obtain rfl : args = #[v0, v1, v2] := by cases args; simp_all
  obtain ⟨rfl, rfl⟩ := trodVars_none hV
  have k0 := h0
  have lt0 : ∀ x ∈ p0, x.block < W.heap.size := by obtain ⟨m, hm⟩ := k0; exact DataW.trod_lt m _ _ _ hm
  obtain ⟨ab, lb, cb, rfl⟩ := okWide_slice Try.underlying31 (hval 0 31 v0 rfl rfl)
  obtain ⟨b, hcb, hb⟩ : ∃ xs, lb ≤ cb ∧ Bytes W W.heap.size ab lb xs := by
    obtain ⟨fuel, hf⟩ := h0
    obtain ⟨a, l, c, xs, e, hl, hi⟩ := bytes_field (by simpa [Value.cells] using hf)
    injection e with e1 e2 e3
    subst e1 e2 e3
    exact ⟨xs, hl, hi⟩
  obtain ⟨n, rfl, rfl, rfl, hn⟩ := open_int Try.underlying5 (hval 1 5 v1 rfl rfl) h1
  have k2 := h2
  have lt2 : ∀ x ∈ p2, x.block < W.heap.size := by obtain ⟨m, hm⟩ := k2; exact DataW.trod_lt m _ _ _ hm
  obtain ⟨l0, l1, rfl, hl0, hl1⟩ := open_two (hval 2 50 v2 rfl rfl) h2
  clear hA0 hval0
  refine (walk ab lb cb b n l0 l1 W hb hcb hn hl0 hl1).mono fun e W' ⟨he, bel⟩ => ?_
  subst he
  exact ⟨_, rfl, _, _, _, [], _, [], hW', trodAll_mk1 (shut_bool Try.underlying4 _), (trodAll_cons_mk (Below.trod laidOut (by kernel_rfl) (of_decide_eq_true (by kernel_rfl)) k0 bel lt0) (trodAll_cons_mk (shut_int Try.underlying5 hn) (trodAll_cons_mk (Below.trod laidOut (by kernel_rfl) (of_decide_eq_true (by kernel_rfl)) k2 bel lt2) trodAll_mk0))), rfl, bel.frame _, fun h => by cases h⟩

theorem over : Rows.arenaCopiesRow.holds Try.pinned (OpenSpec.ofChange Rows.arenaCopiesSpec) :=
  OpenClaim.holds_of_wide 6 Try.f6 rfl rfl rfl rfl rfl rfl rfl ⟨rfl, rfl, rfl, rfl, rfl⟩ rfl rfl rfl rfl rfl (by kernel_rfl) Try.func6 (by kernel_rfl)
    (of_decide_eq_true (by kernel_rfl)) (by unfold Func.isWrapper; first | (rw [if_pos (by decide +kernel)]; kernel_rfl) | (rw [if_neg (by decide +kernel)]; exact ⟨rfl, rfl⟩))
    (fun os started H enc _ => lifted os started H enc)

theorem proved : Rows.ArenaCopiesSaid := over
#print axioms proved
end Go.Proofs.Ytnopeifgcpibaaa.arenaCopies
