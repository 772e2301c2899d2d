/-
  PlanBound: it takes no more moves than blocks less 1, for each open page that is too much; taken one by one they lead there, and not a move sooner. No condition.
-/
import Derived.Test.YtghlngdmcfconaaRows
import Derived.WalkKit
import Derived.ProofKit
import Derived.OpenShut
import Derived.Test.YtghlngdmcfconaaPlanAwake
import Derived.Test.YtghlngdmcfconaaIntsField
import Derived.ShutString
import Derived.ChangeOld
import Derived.Below
namespace Go.Proofs.Ytghlngdmcfconaa.planBound
open Go.ChangeShapes Go.WideShapes Go.ChangeAt Go.RowKit
open Go.ChangeMaps (open_string shut_string)
set_option linter.unusedVariables false

theorem own : ownKnob Try.prog.godebug = none := by kernel_rfl
theorem laidOut : laidOutB Try.prog = true := by kernel_rfl

/-- How far the moves have come: as many are left as these counts take. -/
structure Bd (w : World) (b k m : Int) (v : Value) (j : Nat) (wr : World) : Prop where
  st : ∃ (a : Option Addr) (c : Nat) (xs : List Int), v = .slice a xs.length c ∧ Ints wr wr.heap.size a xs.length xs ∧ Sm b xs ∧ movesN b k xs = m - (j : Int)
  below : Below w.heap.size w wr

/-! ### The walk -/
set_option maxRecDepth 20000 in
set_option maxHeartbeats 2000000 in
theorem walk (acounts : Option Addr) (lcounts ccounts : Nat) (counts : List Int) (blocks : Int) (keep : Int) (w : World) (hcounts : Ints w w.heap.size acounts lcounts counts) (hccounts : lcounts ≤ ccounts) (hblocks : (Lit.int .i64 blocks).wf = true) (hkeep : (Lit.int .u8 keep).wf = true) :
    Calls Try.prog 6 #[.slice acounts lcounts ccounts, .int .i64 blocks, .int .u8 keep] w fun e w' => e = .returned (.bool true) ∧ Below w.heap.size w w' := by
  have A := Lib.hid (awake14_any w)
  have hb := wf_i64 hblocks
  have hkp : 0 ≤ keep ∧ keep ≤ 255 := by simpa [Lit.wf, IntKind.min, IntKind.max, IntKind.signed, IntKind.bits] using hkeep
  have HI := Lib.hid hcounts
  have SM := Lib.hid fun v (hv : Ints v v.heap.size acounts lcounts counts) => small_any acounts lcounts ccounts counts blocks _ v hv
  clear hcounts hblocks hkeep
  cases hs : smB blocks counts with
  | false =>
    rw [hs] at SM
    clear hs
    go_enter Try.func6, Try.ntmps6
    go_wp2_with fail
    refine A.out.mono ?_
    rintro e w0 ⟨rfl, h0⟩
    go_wp2_with fail
    refine (SM.out _ (HI.out.on h0)).mono ?_
    rintro e w1 ⟨rfl, rfl⟩
    go_wp2
    go_ret
    exact ⟨rfl, h0⟩
  | true =>
    rw [hs] at SM
    have S := smB_on hs
    have hl := HI.out.len
    have h12 : lcounts ≤ 12 := by rw [← hl]; exact S.len
    have hb20 := S.blk
    obtain ⟨K, hK⟩ : ∃ K, keep % 14 = K := ⟨_, rfl⟩
    have k1 : 0 ≤ K ∧ K < 14 := by omega
    have hK2 : keep.tmod 14 = K := by rw [Int.tmod_eq_emod_of_nonneg (by omega)]; exact hK
    have hwk : IntKind.i64.wrap K = K := IntWalk.i64_in _ (by omega)
    have hwkeep : IntKind.i64.wrap keep = keep := IntWalk.i64_in _ (by omega)
    have HM := Lib.hid fun v (hv : Ints v v.heap.size acounts lcounts counts) => moves_any acounts lcounts ccounts counts blocks K v hv S (by omega)
    obtain ⟨q0, q1⟩ := movesN_bound (k := K) k1.1 S.may
    rw [hl] at q1
    obtain ⟨m, hm⟩ : ∃ m : Nat, movesN blocks K counts = (m : Int) := ⟨(movesN blocks K counts).toNat, by omega⟩
    rw [hm] at q1
    have DU : Hid (∀ (l : List Int), l.length ≤ 12 → ∀ v, Calls Try.prog 11 #[.int .i64 (l.length : Int), .int .i64 K] v (B1 (dueB l.length K) v)) := Lib.hid fun l hl v => due_any _ K v (by omega) (by omega)
    have N0 : Hid (∀ v, Ints v v.heap.size acounts lcounts counts → Below w.heap.size w v → Bd w blocks K m (.slice acounts lcounts ccounts) 0 v) := Lib.hid fun v hv hb => ⟨⟨acounts, ccounts, counts, by rw [hl], by rw [hl]; exact hv, S, by rw [hm]; simp⟩, hb⟩
    have pos : 1 ≤ lcounts → 2 ≤ blocks := fun h => by
      match counts, hl, S with
      | [], hl, _ => simp at hl; omega
      | x :: r, _, S => have := mayL_iff.1 S.may x (by simp); omega
    rw [hm] at HM
    have hd0 : decide ((m : Int) < 0) = false := decide_eq_false (by omega)
    have m200 : m ≤ 220 := by
      by_cases hx : (lcounts : Int) - 1 - K < 0
      · rw [Int.max_eq_right (by omega), Int.zero_mul] at q1
        omega
      · rw [Int.max_eq_left (by omega)] at q1
        have p1 := pos (by omega)
        have := Int.mul_le_mul (show (lcounts : Int) - 1 - K ≤ 11 by omega) (show blocks - 1 ≤ 19 by omega) (by omega) (by omega)
        omega
    have hw1 : IntKind.i64.wrap ((lcounts : Int) - 1) = (lcounts : Int) - 1 := IntWalk.i64_in _ (by omega)
    obtain ⟨X, hX⟩ : ∃ X, (lcounts : Int) - 1 - K = X := ⟨_, rfl⟩
    have hw2 : IntKind.i64.wrap ((lcounts : Int) - 1 - K) = X := (IntWalk.i64_in _ (by omega)).trans hX
    rw [hX] at q1
    obtain ⟨V, hV⟩ : ∃ V, IntKind.i64.wrap (blocks - 1) = V := ⟨_, rfl⟩
    obtain ⟨P, hP, hmP⟩ : ∃ P, IntKind.i64.wrap ((if X < 0 then 0 else X) * V) = P ∧ (m : Int) ≤ P := by
      by_cases hx : X < 0
      · rw [if_pos hx, Int.zero_mul]
        rw [Int.max_eq_right (by omega), Int.zero_mul] at q1
        exact ⟨0, IntWalk.i64_in _ (by omega), q1⟩
      · rw [if_neg hx]
        have p1 := pos (by omega)
        have ev : V = blocks - 1 := by rw [← hV]; exact IntWalk.i64_in _ (by omega)
        rw [ev]
        rw [Int.max_eq_left (by omega)] at q1
        have b1 := Int.mul_le_mul (show X ≤ 11 by omega) (show blocks - 1 ≤ 19 by omega) (by omega) (by omega)
        have b0 : 0 ≤ X * (blocks - 1) := Int.mul_nonneg (by omega) (by omega)
        exact ⟨_, IntWalk.i64_in _ (by omega), q1⟩
    have dP : decide (P < (m : Int)) = false := decide_eq_false (by omega)
    have d0m : X < 0 → m = 0 := fun hx => by
      rw [Int.max_eq_right (by omega), Int.zero_mul] at q1
      omega
    have HX := Lib.hid hX
    clear hs S q0 q1 pos hm hX hK
    by_cases hx0 : X < 0
    · have d00 : decide ((0 : Int) < (m : Int)) = false := decide_eq_false (by have := d0m hx0; omega)
      have d01 : decide (0 < m) = false := decide_eq_false (by have := d0m hx0; omega)
      clear d0m hP dP hmP
      go_enter Try.func6, Try.ntmps6
      go_wp2_with fail
      refine A.out.mono ?_
      rintro e w0 ⟨rfl, h0⟩
      have I0 := Lib.hid (HI.out.on h0)
      have H0 := Lib.hid h0
      clear h0
      go_wp2_with fail
      refine (SM.out _ I0.out).mono ?_
      rintro e w1 ⟨rfl, rfl⟩
      go_wp2_with fail
      refine (HM.out _ I0.out).mono ?_
      rintro e w6 ⟨rfl, b6⟩
      have L0 := Lib.hid (N0.out w6 (I0.out.on b6) (belowT H0.out b6))
      clear b6
      go_wp2
      go_loopw [10, 11] (fun v i wr => ∃ j : Nat, j ≤ m ∧ i = .int .i64 (j : Int) ∧ Hid (Bd w blocks K m v j wr)) (fun _ i _ => m - (intOf i).toNat)
      case atStart => exact ⟨0, by omega, rfl, L0⟩
      case round =>
        obtain ⟨j, hj, rfl, HS⟩ := hrel
        clear L0
        obtain ⟨a2, c2, ys, rfl, i2, s2, m2⟩ := HS.out.st
        have hbel := HS.out.below
        have l12 := s2.len
        have D := Lib.hid (DU.out ys s2.len)
        by_cases hlt : j < m
        · have dj : decide ((j : Int) < (m : Int)) = true := decide_eq_true (by omega)
          have dj' : decide (j < m) = true := decide_eq_true hlt
          have hd : dueB ys.length K = true := by
            cases hd : dueB ys.length K with
            | true => rfl
            | false => rw [movesN_off hd] at m2; omega
          rw [hd] at D
          have HN := Lib.hid (next_any a2 ys.length c2 ys blocks wr i2 s2)
          have NX : Hid (∀ a3 c3 w3, Ints w3 w3.heap.size a3 (nextL blocks ys).length (nextL blocks ys) → Below wr.heap.size wr w3 → Bd w blocks K m (.slice a3 (nextL blocks ys).length c3) (j + 1) w3) := Lib.hid fun a3 c3 w3 i3 b3 =>
            ⟨⟨a3, c3, nextL blocks ys, rfl, i3, s2.next, by
              have := movesN_step k1.1 s2.may hd
              omega⟩, belowT hbel b3⟩
          clear m2 hd s2 i2 HS hbel
          go_wp2_with fail
          refine (D.out _).mono ?_
          rintro e w1 ⟨rfl, rfl⟩
          go_wp2_with fail
          refine HN.out.mono ?_
          rintro e w3 ⟨a3, c3, rfl, i3, b3⟩
          have E := Lib.hid (NX.out a3 c3 w3 i3 b3)
          clear i3 b3 NX HN
          generalize nextL blocks ys = zs at *
          go_wp2
          go_roundw
          case rel => exact ⟨j + 1, by omega, by go_num, E⟩
          case measure => simp [intOf]; omega
        · have dj : decide ((j : Int) < (m : Int)) = false := decide_eq_false (by omega)
          have dj' : decide (j < m) = false := decide_eq_false hlt
          have hd : dueB ys.length K = false := by
            cases hd : dueB ys.length K with
            | false => rfl
            | true =>
              have h1 := movesN_step k1.1 s2.may hd
              have h2 := (movesN_bound (k := K) k1.1 s2.next.may).1
              omega
          rw [hd] at D
          have HB := Lib.hid hbel
          clear m2 hd s2 i2 HS hbel
          go_wp2_with fail
          refine (D.out _).mono ?_
          rintro e w1 ⟨rfl, rfl⟩
          go_wp2
          go_ret
          exact ⟨rfl, HB.out⟩
    · clear d0m
      rw [if_neg hx0] at hP
      go_enter Try.func6, Try.ntmps6
      go_wp2_with fail
      refine A.out.mono ?_
      rintro e w0 ⟨rfl, h0⟩
      have I0 := Lib.hid (HI.out.on h0)
      have H0 := Lib.hid h0
      clear h0
      go_wp2_with fail
      refine (SM.out _ I0.out).mono ?_
      rintro e w1 ⟨rfl, rfl⟩
      go_wp2_with fail
      refine (HM.out _ I0.out).mono ?_
      rintro e w6 ⟨rfl, b6⟩
      have L0 := Lib.hid (N0.out w6 (I0.out.on b6) (belowT H0.out b6))
      clear b6
      go_wp2
      go_loopw [10, 11] (fun v i wr => ∃ j : Nat, j ≤ m ∧ i = .int .i64 (j : Int) ∧ Hid (Bd w blocks K m v j wr)) (fun _ i _ => m - (intOf i).toNat)
      case atStart => exact ⟨0, by omega, rfl, L0⟩
      case round =>
        obtain ⟨j, hj, rfl, HS⟩ := hrel
        clear L0
        obtain ⟨a2, c2, ys, rfl, i2, s2, m2⟩ := HS.out.st
        have hbel := HS.out.below
        have l12 := s2.len
        have D := Lib.hid (DU.out ys s2.len)
        by_cases hlt : j < m
        · have dj : decide ((j : Int) < (m : Int)) = true := decide_eq_true (by omega)
          have dj' : decide (j < m) = true := decide_eq_true hlt
          have hd : dueB ys.length K = true := by
            cases hd : dueB ys.length K with
            | true => rfl
            | false => rw [movesN_off hd] at m2; omega
          rw [hd] at D
          have HN := Lib.hid (next_any a2 ys.length c2 ys blocks wr i2 s2)
          have NX : Hid (∀ a3 c3 w3, Ints w3 w3.heap.size a3 (nextL blocks ys).length (nextL blocks ys) → Below wr.heap.size wr w3 → Bd w blocks K m (.slice a3 (nextL blocks ys).length c3) (j + 1) w3) := Lib.hid fun a3 c3 w3 i3 b3 =>
            ⟨⟨a3, c3, nextL blocks ys, rfl, i3, s2.next, by
              have := movesN_step k1.1 s2.may hd
              omega⟩, belowT hbel b3⟩
          clear m2 hd s2 i2 HS hbel
          go_wp2_with fail
          refine (D.out _).mono ?_
          rintro e w1 ⟨rfl, rfl⟩
          go_wp2_with fail
          refine HN.out.mono ?_
          rintro e w3 ⟨a3, c3, rfl, i3, b3⟩
          have E := Lib.hid (NX.out a3 c3 w3 i3 b3)
          clear i3 b3 NX HN
          generalize nextL blocks ys = zs at *
          go_wp2
          go_roundw
          case rel => exact ⟨j + 1, by omega, by go_num, E⟩
          case measure => simp [intOf]; omega
        · have dj : decide ((j : Int) < (m : Int)) = false := decide_eq_false (by omega)
          have dj' : decide (j < m) = false := decide_eq_false hlt
          have hd : dueB ys.length K = false := by
            cases hd : dueB ys.length K with
            | false => rfl
            | true =>
              have h1 := movesN_step k1.1 s2.may hd
              have h2 := (movesN_bound (k := K) k1.1 s2.next.may).1
              omega
          rw [hd] at D
          have HB := Lib.hid hbel
          clear m2 hd s2 i2 HS hbel
          go_wp2_with fail
          refine (D.out _).mono ?_
          rintro e w1 ⟨rfl, rfl⟩
          go_wp2
          go_ret
          exact ⟨rfl, HB.out⟩

/-! ### The frame of the row -/
set_option maxRecDepth 100000 in
theorem lifted (os : Os) (started : os.Started) (H : Type) (enc : TypeId × Value → H) :
    ReturnsInHanded {} Try.checked os 6 .any (Rows.planBoundSpec.pre6 enc Try.prog Try.f6 Rows.planBoundRow.domain false) (Rows.planBoundSpec.post enc Try.prog Try.f6 false true false false) := by
  refine returnsInHanded_of_change (C := Try.checked) own started (by kernel_rfl) Try.func6
    (ChangeSpec.witness6 (enc := enc) (C := Try.checked) false ⟨#[], #[.slice none 0 0, .int .i64 0, .int .u8 0], []⟩ 8 (by kernel_rfl) (by kernel_rfl) (by kernel_rfl) (by kernel_rfl)) ?_
  intro W base args ds gs before hval0 hW hcnd _
  have hval : ∀ (j : Nat) t v, Try.f6.params[j]? = some t → args[j]? = some v → Value.okWide Try.prog W .any base t v := hval0
  have hW' := hW
  obtain ⟨p, q, hA0, hV, rfl, hfz, hnd⟩ := hW
  have hA : DataW.TrodAll enc Try.prog W 0 (fun _ => true) true Try.f6.params.toList args.toList ds p := hA0
  rw [Try.params6] at hA hval
  obtain ⟨v0, vs0, d0, ds0, p0, q0, hargs, rfl, rfl, h0, r0⟩ := trodAll_cons hA
  obtain ⟨v1, vs1, d1, ds1, p1, q1, rfl, rfl, rfl, h1, r1⟩ := trodAll_cons r0
  obtain ⟨v2, vs2, d2, ds2, p2, q2, rfl, rfl, rfl, h2, r2⟩ := trodAll_cons r1
  obtain ⟨rfl, rfl, rfl⟩ := trodAll_nil r2
  obtain rfl : args = #[v0, v1, v2] := by cases args; simp_all
  obtain ⟨rfl, rfl⟩ := trodVars_none hV
  have k0 := h0
  have lt0 : ∀ x ∈ p0, x.block < W.heap.size := by obtain ⟨m, hm⟩ := k0; exact DataW.trod_lt m _ _ _ hm
  obtain ⟨acounts, lcounts, ccounts, rfl⟩ := okWide_slice Try.underlying22 (hval 0 22 v0 rfl rfl)
  obtain ⟨counts, hccounts, hcounts⟩ : ∃ xs, lcounts ≤ ccounts ∧ Ints W W.heap.size acounts lcounts xs := by
    obtain ⟨fuel, hf⟩ := h0
    obtain ⟨a, l, c, xs, e, hl, hi⟩ := ints_field (by simpa [Value.cells] using hf)
    injection e with e1 e2 e3
    subst e1 e2 e3
    exact ⟨xs, hl, hi⟩
  obtain ⟨blocks, rfl, rfl, rfl, hblocks⟩ := open_int Try.underlying3 (hval 1 3 v1 rfl rfl) h1
  obtain ⟨keep, rfl, rfl, rfl, hkeep⟩ := open_int Try.underlying5 (hval 2 5 v2 rfl rfl) h2
  clear hA0 hval0
  refine (walk acounts lcounts ccounts counts blocks keep W hcounts hccounts hblocks hkeep).mono fun e W' ⟨he, bel⟩ => ?_
  subst he
  exact ⟨_, rfl, _, _, _, [], _, [], hW', trodAll_mk1 (shut_bool Try.underlying4 _), (trodAll_cons_mk (Below.trod laidOut (by kernel_rfl) (of_decide_eq_true (by kernel_rfl)) k0 bel lt0) (trodAll_cons_mk (shut_int Try.underlying3 hblocks) (trodAll_cons_mk (shut_int Try.underlying5 hkeep) trodAll_mk0))), rfl, bel.frame _, fun h => by cases h⟩

theorem over : Rows.planBoundRow.holds Try.pinned (OpenSpec.ofChange Rows.planBoundSpec) :=
  OpenClaim.holds_of_wide 6 Try.f6 rfl rfl rfl rfl rfl rfl rfl ⟨rfl, rfl, rfl, rfl, rfl⟩ rfl rfl rfl rfl rfl (by kernel_rfl) Try.func6 (by kernel_rfl)
    (of_decide_eq_true (by kernel_rfl)) (by unfold Func.isWrapper; first | (rw [if_pos (by decide +kernel)]; kernel_rfl) | (rw [if_neg (by decide +kernel)]; exact ⟨rfl, rfl⟩))
    (fun os started H enc _ => lifted os started H enc)

theorem proved : Rows.PlanBoundSaid := over
#print axioms proved
end Go.Proofs.Ytghlngdmcfconaa.planBound
