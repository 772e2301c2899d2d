/-
  RingActs: whatever acts come in, the law returns true, and the input reads behind the call as it did.
-/
import Derived.Test.YtakecddjpdiojaaRows
import Derived.WalkKit
import Derived.ProofKit
import Derived.OpenShut
import Derived.Test.YtakecddjpdiojaaRingAwake
import Derived.Test.YtakecddjpdiojaaRingRun
import Derived.Test.YtakecddjpdiojaaQuietImp
import Derived.Test.YtakecddjpdiojaaRegImp
import Derived.ShutString
import Derived.ChangeOld
import Derived.Below
namespace Go.Proofs.Ytakecddjpdiojaa.ringActs
open Go.ChangeShapes Go.WideShapes Go.ChangeAt Go.RowKit
open Go.ChangeMaps (open_string shut_string)
set_option linter.unusedVariables false

theorem own : ownKnob Try.prog.godebug = none := by kernel_rfl
theorem laidOut : laidOutB Try.prog = true := by kernel_rfl

/-! ### The walk -/
set_option maxRecDepth 20000 in
set_option maxHeartbeats 2000000 in
theorem walk (al : Option Addr) (ll cl : Nat) (l : List Ac) (w : World) (hl : Acts w w.heap.size al ll l) (hcl : ll ≤ cl) :
    Calls Try.prog 3 #[.slice al ll cl] w fun e w' => e = .returned (.bool true) ∧ Below w.heap.size w w' := by
  have hmax := hl.max
  go_enter Try.func3, Try.ntmps3
  go_wp2_with fail
  refine (awake07_any w).mono ?_
  rintro e w0 ⟨rfl, h0⟩
  have H0 := Lib.hid h0
  clear h0
  by_cases hll : 30 < ll
  · have d1 : decide ((30 : Int) < (ll : Int)) = true := by simp; omega
    go_wp2
    go_ret
    exact ⟨rfl, H0.out⟩
  have d1 : decide ((30 : Int) < (ll : Int)) = false := by simp; omega
  have HN1 : Hid (Calls Try.prog 9 #[.int .i64 8, .int .i64 3] w0 fun e w' => ∃ p a b, e = .returned (.tuple #[.pointer (some ⟨p, 0, none⟩), .int .i64 0]) ∧ Rg w' p a b 8 3 0 (List.replicate 3 []) ∧ Below w0.heap.size w0 w' ∧ w0.heap.size ≤ p ∧ w0.heap.size ≤ a ∧ w0.heap.size ≤ b) :=
    Lib.hid (new_ok 8 3 w0 (by omega) (by omega) (by omega) (by omega))
  go_wp2_with fail
  refine HN1.out.mono ?_
  rintro e w2 ⟨p, a, b, rfl, r2, b2, hp, ha, hb⟩
  have HN2 : Hid (Calls Try.prog 10 #[.int .i64 8, .int .i64 3] w2 fun e w' => ∃ g, e = .returned (.tuple #[.agg #[.slice (some ⟨g, 0, none⟩) 3 3, .int .i64 8], .int .i64 0]) ∧ Lss w' w'.heap.size (some ⟨g, 0, none⟩) 3 (List.replicate 3 []) ∧ Below w2.heap.size w2 w' ∧ w2.heap.size ≤ g) :=
    Lib.hid (refNew_ok 8 3 w2 (by omega) (by omega) (by omega) (by omega))
  have B2 := Lib.hid (belowT H0.out b2)
  have R2 := Lib.hid r2
  have HA : Hid (w.heap.size ≤ a ∧ w.heap.size ≤ b) := Lib.hid (by have := H0.out.size; omega)
  clear r2 b2 hp ha hb HN1
  go_wp2_with fail
  refine HN2.out.mono ?_
  rintro e w3 ⟨h, rfl, l3, b3, hh⟩
  obtain ⟨r0, ly⟩ := Rs.start (w0 := w) B2.out R2.out b3 hh l3 HA.out.1 HA.out.2
  have RS := Lib.hid r0
  have LY := Lib.hid ly
  clear r0 ly l3 b3 hh HN2
  go_wp2
  generalize w3.alloc (.cells #[.slice (some ⟨h, 0, none⟩) 3 3, .int .i64 8] 30) = w30 at RS ⊢
  generalize w3.heap.size = X at RS LY ⊢
  go_loopw [8] (fun i wr => ∃ (k : Nat) (L : List (List Int)) (xa : Option Addr) (c : Nat) (P : Nat → Prop), k ≤ ll ∧ i = .int .i64 k ∧ Rs w p a b X k L xa c P wr) (fun i _ => ll - (intOf i).toNat)
  case atStart => exact ⟨0, _, _, _, _, by omega, rfl, RS.out⟩
  case round =>
    obtain ⟨k, L, xa, c, P, hk, rfl, hs⟩ := hrel
    have HS := Lib.hid hs
    clear hs RS
    by_cases hlt : k < ll
    · have dk : decide ((k : Int) < (ll : Int)) = true := by simp; omega
      have U1 := Lib.hid (hl.below HS.out.below)
      obtain ⟨b0, o0, rfl, hb0, hc0⟩ := U1.out.head (by omega)
      obtain ⟨u, hu, _⟩ := U1.out.at_ hlt
      have y0 : wr.cell? ⟨b0, o0 + k * 3, none⟩ = some (.bool u.drop) := hc0 k u hu 0 _ rfl
      have y1 : wr.cell? ⟨b0, o0 + k * 3 + 1, none⟩ = some (.int .i64 u.list) := hc0 k u hu 1 _ rfl
      have y2 : wr.cell? ⟨b0, o0 + k * 3 + 2, none⟩ = some (.int .i64 u.node) := hc0 k u hu 2 _ rfl
      have HD := Lib.hid (do07_any HS.out.rg (by omega) u)
      clear hc0 hu
      go_wp2_with fail
      refine HD.out.mono ?_
      rintro e w4 ⟨rfl, r4, b4⟩
      have C4 := Lib.hid (Rg.own b4 HS.out.below.size LY.out.a0 LY.out.b0)
      have z0 := (C4.out.cell (p := ⟨b0, o0 + k * 3, none⟩) hb0).trans y0
      have z1 := (C4.out.cell (p := ⟨b0, o0 + k * 3 + 1, none⟩) hb0).trans y1
      have z2 := (C4.out.cell (p := ⟨b0, o0 + k * 3 + 2, none⟩) hb0).trans y2
      have L4 := Lib.hid (HS.out.ls.but b4 (fun i hi e => by have := HS.out.far i hi; rcases e with e | e; exact this.2.1 e; exact this.2.2 e))
      have V4 := Lib.hid (HS.out.lv.but b4 (fun e => by rcases e with e | e; exact LY.out.xa e; exact LY.out.xb e))
      have HC : Hid (∀ v, Below w4.heap.size w4 v → Calls Try.prog 12 #[.agg #[.slice xa 3 c, .int .i64 8], .agg #[.bool u.drop, .int .i64 u.list, .int .i64 u.node]] v (ActEnds P 3 8 (actOut 8 L u) v)) :=
        Lib.hid (fun v hv => refDo_any HS.out.rg.wf (by omega) (by omega) (by omega) xa c u (L4.out.on hv))
      generalize actOut 8 L u = r at HC r4 ⊢
      have R4 := Lib.hid r4
      have B4 := Lib.hid b4
      obtain ⟨p0, p1, p2, p3⟩ := V4.out
      clear r4 b4 y0 y1 y2 HD
      go_wp2_with fail
      go_region_held3 (fun w' => w'.cell? ⟨X, 0, none⟩ = some (.slice xa 3 c) ∧ w'.cell? ⟨X, 1, none⟩ = some (.int .i64 8) ∧ w'.cell? ⟨b0, o0 + k * 3, none⟩ = some (.bool u.drop) ∧ w'.cell? ⟨b0, o0 + k * 3 + 1, none⟩ = some (.int .i64 u.list) ∧ w'.cell? ⟨b0, o0 + k * 3 + 2, none⟩ = some (.int .i64 u.node))
        (first | exact ⟨p0, p1, z0, z1, z2⟩ | exact k5 | exact keep5 (below1 _ _) k5 | exact keep5y (w := w4) (but_two _ _ _ _) ⟨p0, p1, z0, z1, z2⟩ k5 | exact keep5 (below1 _ _) ⟨p0, p1, z0, z1, z2⟩ | go_keep)
        (first
          | (go_at_call 12; refine (HC.out _ (by first | exact belowD (Below.refl _ _) | exact (belowD (Below.refl _ _)).alloc (Nat.le_refl _) _)).mono ?_; rintro e w5 ⟨a', c', Q, rfl, l5, b5, q5⟩; first | (have k5 := keep5 (w := w4.drew) b5 ⟨p0, p1, z0, z1, z2⟩) | (have k5 := keep5 b5 (keep5 (below1 w4.drew _) ⟨p0, p1, z0, z1, z2⟩); have ZY : Lv w5 w4.heap.size none 0 0 0 := (Lv.new w4.drew none 0 0 0).below b5; obtain ⟨g0, g1, g2, g3⟩ := ZY)))
      all_goals
        first
          | (have NX := Yx.behind (w4 := w4) (P := P) (c' := c') b5 l5 q5; generalize w5.alloc (.cells #[.slice a' 3 c', .int .i64 8] 30) = w6 at NX ⊢; generalize w5.heap.size = Y at NX ⊢)
          | (have NX := Yx.ahead (w4 := w4) (P := P) (c' := c') L4.out.lt b5 l5 q5; generalize (w5.setCell ⟨w4.heap.size, 0, none⟩ (.slice a' 3 c')).setCell ⟨w4.heap.size, 1, none⟩ (.int .i64 8) = w6 at NX ⊢; generalize w4.heap.size = Y at NX ⊢)
        obtain ⟨m0, m1, m2, m3⟩ := NX.lv
        obtain ⟨x0, x1, x2, x3⟩ := V4.out.below NX.below
        have SN := Lib.hid (HS.out.next LY.out B4.out R4.out NX)
        have hEr : (r.2 != r.2) = false := by simp
        clear NX b5 l5 q5 k5
        try clear g0 g1 g2 g3
        clear p0 p1 p2 p3 z0 z1 z2
        go_wp2_with fail
        generalize (w6.setCell ⟨X, 0, none⟩ (.slice a' 3 c')).setCell ⟨X, 1, none⟩ (.int .i64 8) = w7 at SN ⊢
        have HSA := Lib.hid (same07_any SN.out.rg (by omega) (by omega) (by omega) a' c' SN.out.ls.base)
        refine HSA.out.mono ?_
        rintro e w8 ⟨rfl, b8⟩
        have S8 := Lib.hid (show Rs w p a b X (k + 1) r.1 a' c' Q w8 from ⟨belowT SN.out.below b8, SN.out.rg.below b8, SN.out.lv.below b8, SN.out.ls.on b8, SN.out.far⟩)
        clear b8 HSA m0 m1 m2 m3 x0 x1 x2 x3
        go_wp2
        go_roundw
        case rel => exact ⟨k + 1, _, _, _, _, by omega, by go_num, S8.out⟩
        case measure => simp [intOf]; omega
    · have dk : decide ((k : Int) < (ll : Int)) = false := by simp; omega
      obtain ⟨p0, p1, p2, p3⟩ := HS.out.lv
      have HSA := Lib.hid (same07_any HS.out.rg (by omega) (by omega) (by omega) xa c HS.out.ls.base)
      go_wp2_with fail
      refine HSA.out.mono ?_
      rintro e w8 ⟨rfl, b8⟩
      have B8 := Lib.hid (belowT HS.out.below b8)
      clear b8 HSA
      go_wp2
      go_ret
      exact ⟨rfl, B8.out⟩

/-! ### The frame of the row -/
set_option maxRecDepth 100000 in
theorem lifted (os : Os) (started : os.Started) (H : Type) (enc : TypeId × Value → H) :
    ReturnsInHanded {} Try.checked os 3 .any (Rows.ringActsSpec.pre6 enc Try.prog Try.f3 Rows.ringActsRow.domain false) (Rows.ringActsSpec.post enc Try.prog Try.f3 false true false false) := by
  refine returnsInHanded_of_change (C := Try.checked) own started (by kernel_rfl) Try.func3
    (ChangeSpec.witness6 (enc := enc) (C := Try.checked) false ⟨#[], #[.slice none 0 0], []⟩ 8 (by kernel_rfl) (by kernel_rfl) (by kernel_rfl) (by kernel_rfl)) ?_
  intro W base args ds gs before hval0 hW hcnd _
  have hval : ∀ (j : Nat) t v, Try.f3.params[j]? = some t → args[j]? = some v → Value.okWide Try.prog W .any base t v := hval0
  have hW' := hW
  obtain ⟨p, q, hA0, hV, rfl, hfz, hnd⟩ := hW
  have hA : DataW.TrodAll enc Try.prog W 0 (fun _ => true) true Try.f3.params.toList args.toList ds p := hA0
  rw [Try.params3] at hA hval
  obtain ⟨v0, vs0, d0, ds0, p0, q0, hargs, rfl, rfl, h0, r0⟩ := trodAll_cons hA
  obtain ⟨rfl, rfl, rfl⟩ := trodAll_nil r0
  obtain rfl : args = #[v0] := by cases args; simp_all
  obtain ⟨rfl, rfl⟩ := trodVars_none hV
  have k0 := h0
  have lt0 : ∀ x ∈ p0, x.block < W.heap.size := by obtain ⟨m, hm⟩ := k0; exact DataW.trod_lt m _ _ _ hm
  obtain ⟨al, ll, cl, rfl⟩ := okWide_slice Try.underlying22 (hval 0 22 v0 rfl rfl)
  obtain ⟨l, hcl, hl⟩ : ∃ xs, ll ≤ cl ∧ Acts W W.heap.size al ll xs := by
    obtain ⟨fuel, hf⟩ := h0
    obtain ⟨a, l, c, xs, e, hl, hi⟩ := acts_field (by simpa [Value.cells] using hf)
    injection e with e1 e2 e3
    subst e1 e2 e3
    exact ⟨xs, hl, hi⟩
  clear hA0 hval0
  refine (walk al ll cl l W hl hcl).mono fun e W' ⟨he, bel⟩ => ?_
  subst he
  exact ⟨_, rfl, _, _, _, [], _, [], hW', trodAll_mk1 (shut_bool Try.underlying4 _), (trodAll_cons_mk (Below.trod laidOut (by kernel_rfl) (of_decide_eq_true (by kernel_rfl)) k0 bel lt0) trodAll_mk0), rfl, bel.frame _, fun h => by cases h⟩

theorem over : Rows.ringActsRow.holds Try.pinned (OpenSpec.ofChange Rows.ringActsSpec) :=
  OpenClaim.holds_of_wide 3 Try.f3 rfl rfl rfl rfl rfl rfl rfl ⟨rfl, rfl, rfl, rfl, rfl⟩ rfl rfl rfl rfl rfl (by kernel_rfl) Try.func3 (by kernel_rfl)
    (of_decide_eq_true (by kernel_rfl)) (by unfold Func.isWrapper; first | (rw [if_pos (by decide +kernel)]; kernel_rfl) | (rw [if_neg (by decide +kernel)]; exact ⟨rfl, rfl⟩))
    (fun os started H enc _ => lifted os started H enc)

theorem proved : Rows.RingActsSaid := over
#print axioms proved
end Go.Proofs.Ytakecddjpdiojaa.ringActs
