/-
  RingBack: whatever acts, and whatever two numbers, come in, the law returns true, and the input reads behind the call as it did.
-/
import Derived.Test.YtakecddjpdiojaaRows
import Derived.WalkKit
import Derived.ProofKit
import Derived.OpenShut
import Derived.Test.YtakecddjpdiojaaRingAwake
import Derived.Test.YtakecddjpdiojaaRingRun
import Derived.Test.YtakecddjpdiojaaQuietImp
import Derived.Test.YtakecddjpdiojaaRegImp
import Derived.ShutString
import Derived.ChangeOld
import Derived.Below
namespace Go.Proofs.Ytakecddjpdiojaa.ringBack
open Go.ChangeShapes Go.WideShapes Go.ChangeAt Go.RowKit
open Go.ChangeMaps (open_string shut_string)
set_option linter.unusedVariables false

theorem own : ownKnob Try.prog.godebug = none := by kernel_rfl
theorem laidOut : laidOutB Try.prog = true := by kernel_rfl

theorem wf_u8 {x : Int} (h : (Lit.int .u8 x).wf = true) : 0 ≤ x ∧ x ≤ 255 := by
  simpa [Lit.wf, IntKind.min, IntKind.max, IntKind.signed, IntKind.bits] using h
theorem drop_push (L : List (List Int)) (i : Nat) (n : Int) (hi : i < L.length) : dropL (pushL L i n) i 0 = L := by
  unfold dropL pushL
  rw [List.getElem?_set, if_pos rfl, if_pos hi]
  simp only [Option.getD_some, List.eraseIdx_cons_zero, List.set_set]
  rw [List.getElem?_eq_getElem hi]
  simp

/-! ### The walk -/
set_option maxRecDepth 20000 in
set_option maxHeartbeats 2000000 in
theorem walk (al : Option Addr) (ll cl : Nat) (l : List Ac) (list : Int) (node : Int) (w : World) (hl : Acts w w.heap.size al ll l) (hcl : ll ≤ cl) (hlist : (Lit.int .u8 list).wf = true) (hnode : (Lit.int .u8 node).wf = true) :
    Calls Try.prog 6 #[.slice al ll cl, .int .u8 list, .int .u8 node] w fun e w' => e = .returned (.bool true) ∧ Below w.heap.size w w' := by
  have hmax := hl.max
  have hli := wf_u8 hlist
  have hno := wf_u8 hnode
  clear hlist hnode
  go_enter Try.func6, Try.ntmps6
  go_wp2_with fail
  refine (awake07_any w).mono ?_
  rintro e w0 ⟨rfl, h0⟩
  have H0 := Lib.hid h0
  clear h0
  by_cases hll : 30 < ll
  · have d1 : decide ((30 : Int) < (ll : Int)) = true := by simp; omega
    go_wp2
    go_ret
    exact ⟨rfl, H0.out⟩
  have d1 : decide ((30 : Int) < (ll : Int)) = false := by simp; omega
  have HN1 : Hid (Calls Try.prog 9 #[.int .i64 8, .int .i64 3] w0 fun e w' => ∃ p a b, e = .returned (.tuple #[.pointer (some ⟨p, 0, none⟩), .int .i64 0]) ∧ Rg w' p a b 8 3 0 (List.replicate 3 []) ∧ Below w0.heap.size w0 w' ∧ w0.heap.size ≤ p ∧ w0.heap.size ≤ a ∧ w0.heap.size ≤ b) :=
    Lib.hid (new_ok 8 3 w0 (by omega) (by omega) (by omega) (by omega))
  go_wp2_with fail
  refine HN1.out.mono ?_
  rintro e w2 ⟨p, a, b, rfl, r2, b2, hp, ha, hb⟩
  have HN2 : Hid (Calls Try.prog 10 #[.int .i64 8, .int .i64 3] w2 fun e w' => ∃ g, e = .returned (.tuple #[.agg #[.slice (some ⟨g, 0, none⟩) 3 3, .int .i64 8], .int .i64 0]) ∧ Lss w' w'.heap.size (some ⟨g, 0, none⟩) 3 (List.replicate 3 []) ∧ Below w2.heap.size w2 w' ∧ w2.heap.size ≤ g) :=
    Lib.hid (refNew_ok 8 3 w2 (by omega) (by omega) (by omega) (by omega))
  have B2 := Lib.hid (belowT H0.out b2)
  have R2 := Lib.hid r2
  have HA : Hid (w.heap.size ≤ a ∧ w.heap.size ≤ b) := Lib.hid (by have := H0.out.size; omega)
  clear r2 b2 hp ha hb HN1
  go_wp2_with fail
  refine HN2.out.mono ?_
  rintro e w3 ⟨h, rfl, l3, b3, hh⟩
  obtain ⟨r0, ly⟩ := Rs.start (w0 := w) B2.out R2.out b3 hh l3 HA.out.1 HA.out.2
  have RS := Lib.hid r0
  have LY := Lib.hid ly
  clear r0 ly l3 b3 hh HN2
  go_wp2
  generalize w3.alloc (.cells #[.slice (some ⟨h, 0, none⟩) 3 3, .int .i64 8] 30) = w30 at RS ⊢
  generalize w3.heap.size = X at RS LY ⊢
  go_loopw [12] (fun i wr => ∃ (k : Nat) (L : List (List Int)) (xa : Option Addr) (c : Nat) (P : Nat → Prop), k ≤ ll ∧ i = .int .i64 k ∧ Rs w p a b X k L xa c P wr) (fun i _ => ll - (intOf i).toNat)
  case atStart => exact ⟨0, _, _, _, _, by omega, rfl, RS.out⟩
  case round =>
    obtain ⟨k, L, xa, c, P, hk, rfl, hs⟩ := hrel
    have HS := Lib.hid hs
    clear hs RS
    by_cases hlt : k < ll
    · have dk : decide ((k : Int) < (ll : Int)) = true := by simp; omega
      have U1 := Lib.hid (hl.below HS.out.below)
      obtain ⟨b0, o0, rfl, hb0, hc0⟩ := U1.out.head (by omega)
      obtain ⟨u, hu, _⟩ := U1.out.at_ hlt
      have y0 : wr.cell? ⟨b0, o0 + k * 3, none⟩ = some (.bool u.drop) := hc0 k u hu 0 _ rfl
      have y1 : wr.cell? ⟨b0, o0 + k * 3 + 1, none⟩ = some (.int .i64 u.list) := hc0 k u hu 1 _ rfl
      have y2 : wr.cell? ⟨b0, o0 + k * 3 + 2, none⟩ = some (.int .i64 u.node) := hc0 k u hu 2 _ rfl
      have HD := Lib.hid (do07_any HS.out.rg (by omega) u)
      clear hc0 hu
      go_wp2_with fail
      refine HD.out.mono ?_
      rintro e w4 ⟨rfl, r4, b4⟩
      have C4 := Lib.hid (Rg.own b4 HS.out.below.size LY.out.a0 LY.out.b0)
      have z0 := (C4.out.cell (p := ⟨b0, o0 + k * 3, none⟩) hb0).trans y0
      have z1 := (C4.out.cell (p := ⟨b0, o0 + k * 3 + 1, none⟩) hb0).trans y1
      have z2 := (C4.out.cell (p := ⟨b0, o0 + k * 3 + 2, none⟩) hb0).trans y2
      have L4 := Lib.hid (HS.out.ls.but b4 (fun i hi e => by have := HS.out.far i hi; rcases e with e | e; exact this.2.1 e; exact this.2.2 e))
      have V4 := Lib.hid (HS.out.lv.but b4 (fun e => by rcases e with e | e; exact LY.out.xa e; exact LY.out.xb e))
      have HC : Hid (∀ v, Below w4.heap.size w4 v → Calls Try.prog 12 #[.agg #[.slice xa 3 c, .int .i64 8], .agg #[.bool u.drop, .int .i64 u.list, .int .i64 u.node]] v (ActEnds P 3 8 (actOut 8 L u) v)) :=
        Lib.hid (fun v hv => refDo_any HS.out.rg.wf (by omega) (by omega) (by omega) xa c u (L4.out.on hv))
      generalize actOut 8 L u = r at HC r4 ⊢
      have R4 := Lib.hid r4
      have B4 := Lib.hid b4
      obtain ⟨p0, p1, p2, p3⟩ := V4.out
      clear r4 b4 y0 y1 y2 HD
      go_wp2_with fail
      go_region_held3 (fun w' => w'.cell? ⟨X, 0, none⟩ = some (.slice xa 3 c) ∧ w'.cell? ⟨X, 1, none⟩ = some (.int .i64 8) ∧ w'.cell? ⟨b0, o0 + k * 3, none⟩ = some (.bool u.drop) ∧ w'.cell? ⟨b0, o0 + k * 3 + 1, none⟩ = some (.int .i64 u.list) ∧ w'.cell? ⟨b0, o0 + k * 3 + 2, none⟩ = some (.int .i64 u.node))
        (first | exact ⟨p0, p1, z0, z1, z2⟩ | exact k5 | exact keep5 (below1 _ _) k5 | exact keep5y (w := w4) (but_two _ _ _ _) ⟨p0, p1, z0, z1, z2⟩ k5 | exact keep5 (below1 _ _) ⟨p0, p1, z0, z1, z2⟩ | go_keep)
        (first
          | (go_at_call 12; refine (HC.out _ (by first | exact belowD (Below.refl _ _) | exact (belowD (Below.refl _ _)).alloc (Nat.le_refl _) _)).mono ?_; rintro e w5 ⟨a', c', Q, rfl, l5, b5, q5⟩; first | (have k5 := keep5 (w := w4.drew) b5 ⟨p0, p1, z0, z1, z2⟩) | (have k5 := keep5 b5 (keep5 (below1 w4.drew _) ⟨p0, p1, z0, z1, z2⟩); have ZY : Lv w5 w4.heap.size none 0 0 0 := (Lv.new w4.drew none 0 0 0).below b5; obtain ⟨g0, g1, g2, g3⟩ := ZY)))
      all_goals
        first
          | (have NX := Yx.behind (w4 := w4) (P := P) (c' := c') b5 l5 q5; generalize w5.alloc (.cells #[.slice a' 3 c', .int .i64 8] 30) = w6 at NX ⊢; generalize w5.heap.size = Y at NX ⊢)
          | (have NX := Yx.ahead (w4 := w4) (P := P) (c' := c') L4.out.lt b5 l5 q5; generalize (w5.setCell ⟨w4.heap.size, 0, none⟩ (.slice a' 3 c')).setCell ⟨w4.heap.size, 1, none⟩ (.int .i64 8) = w6 at NX ⊢; generalize w4.heap.size = Y at NX ⊢)
        obtain ⟨m0, m1, m2, m3⟩ := NX.lv
        obtain ⟨x0, x1, x2, x3⟩ := V4.out.below NX.below
        have SN := Lib.hid (HS.out.next LY.out B4.out R4.out NX)
        clear NX b5 l5 q5 k5
        try clear g0 g1 g2 g3
        clear p0 p1 p2 p3 z0 z1 z2
        go_wp2
        go_roundw
        case rel => exact ⟨k + 1, _, _, _, _, by omega, by go_num, SN.out⟩
        case measure => simp [intOf]; omega
    · have dk : decide ((k : Int) < (ll : Int)) = false := by simp; omega
      obtain ⟨p0, p1, p2, p3⟩ := HS.out.lv
      have HW := Lib.hid HS.out.rg.wf
      obtain ⟨i, hi, hi2⟩ : ∃ i : Nat, list % 3 = (i : Int) ∧ i < 3 := ⟨(list % 3).toNat, by omega, by omega⟩
      obtain ⟨n, hn, hn2⟩ : ∃ n : Nat, node % 8 = (n : Int) ∧ n < 8 := ⟨(node % 8).toNat, by omega, by omega⟩
      have hi3 : list.tmod 3 = (i : Int) := by rw [Int.tmod_eq_emod_of_nonneg (by omega)]; exact hi
      have hn3 : node.tmod 8 = (n : Int) := by rw [Int.tmod_eq_emod_of_nonneg (by omega)]; exact hn
      have HP := Lib.hid (rgPush HS.out.rg (by omega) (i : Int) (n : Int))
      have HL := Lib.hid HS.out.ls
      have HB := Lib.hid HS.out.below
      have HV := Lib.hid HS.out.lv
      have HFAR := Lib.hid HS.out.far
      have HSZ := Lib.hid HS.out.below.size
      have HLEN := Lib.hid HS.out.rg.wf.len
      clear HS
      by_cases ho : ofL L n = -1
      · have e1 : pushOut 8 L (i : Int) (n : Int) = (pushL L i n, 0) := pushOut_ok HW.out hi2 hn2 ho
        rw [e1] at HP
        have HO := Lib.hid (HW.out.of_none ho)
        have HW1 := Lib.hid (HW.out.push hi2 ⟨by omega, by omega⟩ HO.out)
        have hat : At (pushL L i (n : Int)) i 0 (n : Int) := (at_push (by rw [HLEN.out]; exact hi2) _ _ _).2 (Or.inl ⟨rfl, Or.inl ⟨rfl, rfl⟩⟩)
        have HDO : Hid (dropOut 8 (pushL L i (n : Int)) (n : Int) = (L, 0)) := Lib.hid (by unfold dropOut; rw [if_pos (inB_of hn2), HW1.out.plc hat]; show (dropL _ i 0, (0 : Int)) = _; rw [drop_push L i n (by rw [HLEN.out]; exact hi2)])
        have HDN : Hid (dropOut 8 L (n : Int) = (L, 9)) := Lib.hid (by unfold dropOut; rw [if_pos (inB_of hn2), plc_no HO.out])
        have HFI : Hid (firstI (pushL L i (n : Int)) (i : Int) = (n : Int)) := Lib.hid (by unfold firstI; rw [HW1.out.len, if_pos (inB_of hi2), Int.toNat_natCast]; exact at_gt hat)
        clear e1 hat ho
        go_wp2_with fail
        refine HP.out.mono ?_
        rintro e w4 ⟨rfl, r4, b4⟩
        have C4 := Lib.hid (Rg.own b4 HSZ.out LY.out.a0 LY.out.b0)
        have B4 := Lib.hid (HB.out.trans C4.out)
        have V4 := Lib.hid (HV.out.but b4 (fun e => by rcases e with e | e; exact LY.out.xa e; exact LY.out.xb e))
        have L4 := Lib.hid (HL.out.but b4 (fun i hi e => by have := HFAR.out i hi; rcases e with e | e; exact this.2.1 e; exact this.2.2 e))
        have HF := rgFirst r4 (i : Int)
        rw [HFI.out] at HF
        have HFF := Lib.hid HF
        have HD := rgDrop r4 (by omega) (n : Int)
        rw [HDO.out] at HD
        have HDD := Lib.hid HD
        have t1 : ((n : Int) == (n : Int)) = true := by simp
        clear HF HD r4 b4 HP
        go_wp2_with fail
        refine HFF.out.mono ?_
        rintro e w5 ⟨rfl, rfl⟩
        go_wp2_with fail
        refine HDD.out.mono ?_
        rintro e w5 ⟨rfl, r5, b5⟩
        have C5 := Lib.hid (Rg.own b5 B4.out.size LY.out.a0 LY.out.b0)
        have B5 := Lib.hid (B4.out.trans C5.out)
        have V5 := V4.out.but b5 (fun e => by rcases e with e | e; exact LY.out.xa e; exact LY.out.xb e)
        have L5 := L4.out.but b5 (fun i hi e => by have := HFAR.out i hi; rcases e with e | e; exact this.2.1 e; exact this.2.2 e)
        have HSA := Lib.hid (same07_any r5 (by omega) (by omega) (by omega) xa c L5.base)
        have R5 := Lib.hid r5
        clear p0 p1 p2 p3
        obtain ⟨p0, p1, p2, p3⟩ := V5
        clear L5 r5 b5
        go_wp2_with fail
        refine HSA.out.mono ?_
        rintro e w6 ⟨rfl, b6⟩
        have HD2 := rgDrop (R5.out.below b6) (by omega) (n : Int)
        rw [HDN.out] at HD2
        have HDD2 := Lib.hid HD2
        have B6 := Lib.hid (belowT B5.out b6)
        clear b6 HD2
        go_wp2_with fail
        refine HDD2.out.mono ?_
        rintro e w7 ⟨rfl, _, b7⟩
        have B7 := Lib.hid (B6.out.trans (Rg.own b7 B6.out.size LY.out.a0 LY.out.b0))
        clear b7
        go_wp2
        go_ret
        exact ⟨rfl, B7.out⟩
      · have e1 : pushOut 8 L (i : Int) (n : Int) = (L, 10) := pushOut_there HW.out hi2 hn2 ho
        rw [e1] at HP
        have HOF : Hid (0 ≤ ofL L n) := Lib.hid (by
          rcases spot L n with ⟨i1, j1, h1⟩ | h1
          · rw [HW.out.of h1]; omega
          · exact absurd (of_no h1) ho)
        clear e1 ho
        go_wp2_with fail
        refine HP.out.mono ?_
        rintro e w4 ⟨rfl, r4, b4⟩
        have C4 := Lib.hid (Rg.own b4 HSZ.out LY.out.a0 LY.out.b0)
        have B4 := Lib.hid (HB.out.trans C4.out)
        have V4 := HV.out.but b4 (fun e => by rcases e with e | e; exact LY.out.xa e; exact LY.out.xb e)
        have L4 := Lib.hid (HL.out.but b4 (fun i hi e => by have := HFAR.out i hi; rcases e with e | e; exact this.2.1 e; exact this.2.2 e))
        have HOO := Lib.hid (refOf_any HW.out (by omega) xa c 8 (n : Int) L4.out.base)
        have dof : decide (0 ≤ ofL L n) = true := by simpa using HOF.out
        generalize ofL L n = fo at HOO dof
        have HV4 := Lib.hid V4
        have R4 := Lib.hid r4
        clear p0 p1 p2 p3
        obtain ⟨p0, p1, p2, p3⟩ := V4
        clear r4 b4 HP
        go_wp2_with fail
        refine HOO.out.mono ?_
        rintro e w5 ⟨rfl, b5⟩
        have HSA := Lib.hid (same07_any (R4.out.below b5) (by omega) (by omega) (by omega) xa c (L4.out.on b5).base)
        have B5 := Lib.hid (belowT B4.out b5)
        clear p0 p1 p2 p3
        obtain ⟨p0, p1, p2, p3⟩ := HV4.out.below b5
        clear b5
        go_wp2_with fail
        refine HSA.out.mono ?_
        rintro e w6 ⟨rfl, b6⟩
        have B6 := Lib.hid (belowT B5.out b6)
        clear b6
        go_wp2
        go_ret
        exact ⟨rfl, B6.out⟩

/-! ### The frame of the row -/
set_option maxRecDepth 100000 in
theorem lifted (os : Os) (started : os.Started) (H : Type) (enc : TypeId × Value → H) :
    ReturnsInHanded {} Try.checked os 6 .any (Rows.ringBackSpec.pre6 enc Try.prog Try.f6 Rows.ringBackRow.domain false) (Rows.ringBackSpec.post enc Try.prog Try.f6 false true false false) := by
  refine returnsInHanded_of_change (C := Try.checked) own started (by kernel_rfl) Try.func6
    (ChangeSpec.witness6 (enc := enc) (C := Try.checked) false ⟨#[], #[.slice none 0 0, .int .u8 0, .int .u8 0], []⟩ 8 (by kernel_rfl) (by kernel_rfl) (by kernel_rfl) (by kernel_rfl)) ?_
  intro W base args ds gs before hval0 hW hcnd _
  have hval : ∀ (j : Nat) t v, Try.f6.params[j]? = some t → args[j]? = some v → Value.okWide Try.prog W .any base t v := hval0
  have hW' := hW
  obtain ⟨p, q, hA0, hV, rfl, hfz, hnd⟩ := hW
  have hA : DataW.TrodAll enc Try.prog W 0 (fun _ => true) true Try.f6.params.toList args.toList ds p := hA0
  rw [Try.params6] at hA hval
  obtain ⟨v0, vs0, d0, ds0, p0, q0, hargs, rfl, rfl, h0, r0⟩ := trodAll_cons hA
  obtain ⟨v1, vs1, d1, ds1, p1, q1, rfl, rfl, rfl, h1, r1⟩ := trodAll_cons r0
  obtain ⟨v2, vs2, d2, ds2, p2, q2, rfl, rfl, rfl, h2, r2⟩ := trodAll_cons r1
  obtain ⟨rfl, rfl, rfl⟩ := trodAll_nil r2
  obtain rfl : args = #[v0, v1, v2] := by cases args; simp_all
  obtain ⟨rfl, rfl⟩ := trodVars_none hV
  have k0 := h0
  have lt0 : ∀ x ∈ p0, x.block < W.heap.size := by obtain ⟨m, hm⟩ := k0; exact DataW.trod_lt m _ _ _ hm
  obtain ⟨al, ll, cl, rfl⟩ := okWide_slice Try.underlying22 (hval 0 22 v0 rfl rfl)
  obtain ⟨l, hcl, hl⟩ : ∃ xs, ll ≤ cl ∧ Acts W W.heap.size al ll xs := by
    obtain ⟨fuel, hf⟩ := h0
    obtain ⟨a, l, c, xs, e, hl, hi⟩ := acts_field (by simpa [Value.cells] using hf)
    injection e with e1 e2 e3
    subst e1 e2 e3
    exact ⟨xs, hl, hi⟩
  obtain ⟨list, rfl, rfl, rfl, hlist⟩ := open_int Try.underlying5 (hval 1 5 v1 rfl rfl) h1
  obtain ⟨node, rfl, rfl, rfl, hnode⟩ := open_int Try.underlying5 (hval 2 5 v2 rfl rfl) h2
  clear hA0 hval0
  refine (walk al ll cl l list node W hl hcl hlist hnode).mono fun e W' ⟨he, bel⟩ => ?_
  subst he
  exact ⟨_, rfl, _, _, _, [], _, [], hW', trodAll_mk1 (shut_bool Try.underlying4 _), (trodAll_cons_mk (Below.trod laidOut (by kernel_rfl) (of_decide_eq_true (by kernel_rfl)) k0 bel lt0) (trodAll_cons_mk (shut_int Try.underlying5 hlist) (trodAll_cons_mk (shut_int Try.underlying5 hnode) trodAll_mk0))), rfl, bel.frame _, fun h => by cases h⟩

theorem over : Rows.ringBackRow.holds Try.pinned (OpenSpec.ofChange Rows.ringBackSpec) :=
  OpenClaim.holds_of_wide 6 Try.f6 rfl rfl rfl rfl rfl rfl rfl ⟨rfl, rfl, rfl, rfl, rfl⟩ rfl rfl rfl rfl rfl (by kernel_rfl) Try.func6 (by kernel_rfl)
    (of_decide_eq_true (by kernel_rfl)) (by unfold Func.isWrapper; first | (rw [if_pos (by decide +kernel)]; kernel_rfl) | (rw [if_neg (by decide +kernel)]; exact ⟨rfl, rfl⟩))
    (fun os started H enc _ => lifted os started H enc)

theorem proved : Rows.RingBackSaid := over
#print axioms proved
end Go.Proofs.Ytakecddjpdiojaa.ringBack
