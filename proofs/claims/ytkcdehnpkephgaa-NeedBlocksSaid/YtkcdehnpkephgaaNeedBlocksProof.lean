/-
  almerylaw17.NeedBlocks returns true for every layout and every byte, and all memory that was there is as it was. No condition.
-/
import Derived.Test.YtkcdehnpkephgaaRows
import Derived.WalkKit
import Derived.ProofKit
import Derived.OpenShut
import Derived.Test.YtkcdehnpkephgaaNeedAwake
import Derived.Test.YtkcdehnpkephgaaNeedRefPages
import Derived.Test.YtkcdehnpkephgaaConfRefMay
import Derived.Test.YtkcdehnpkephgaaConfOpen
import Derived.Test.YtkcdehnpkephgaaIntsCut
import Derived.Test.YtkcdehnpkephgaaBoolsMake
import Derived.Test.YtkcdehnpkephgaaWf
import Derived.ShutString
import Derived.ChangeOld
import Derived.Below
namespace Go.Proofs.Ytkcdehnpkephgaa.needBlocks
open Go.ChangeShapes Go.WideShapes Go.ChangeAt Go.RowKit
open Go.ChangeMaps (open_string shut_string)
set_option linter.unusedVariables false

theorem own : ownKnob Try.prog.godebug = none := by kernel_rfl
theorem laidOut : laidOutB Try.prog = true := by kernel_rfl

theorem pages_tb {c : Cf} {l : List Int} {p r : Int} {w : World} {args : Array Value} (e : pagesOut c l = (p, r)) (h : Calls Try.prog 10 args w (PagesEnd c l w)) : Calls Try.prog 10 args w (TB p r w) := by
  unfold PagesEnd at h
  rw [e] at h
  exact h

theorem most_tb {c : Cf} {l : List Int} {ms : List Bool} {p r : Int} {w : World} {args : Array Value} (e : mostOut c l ms = (p, r)) (h : Calls Try.prog 12 args w (MostEnd c l ms w)) : Calls Try.prog 12 args w (TB p r w) := by
  unfold MostEnd at h
  rw [e] at h
  exact h
/-- As many of a class's size as a page has blocks, and one more. -/
theorem same_facts {c : Cf} (h : MayC c) {k : Nat} {s : Int} (hs : c.xs[k]? = some s) (hm : s ≤ c.most) {m : Nat} (e : blocks c (k : Int) = (m : Int)) (hn : c.cn = c.xs.length) :
    pagesOut c (List.replicate m s) = (1, 0) ∧ pagesOut c (List.replicate (m + 1) s) = (2, 0) ∧ mostOut c (List.replicate m s) (List.replicate c.cn false) = (1 + sumTo (keepAt c) c.cn, 0) ∧ liveN c (List.replicate m s) (k : Int) = m := by
  have hk := (List.getElem?_eq_some_iff.1 hs).1
  have hb := h.blocks hk
  rw [e] at hb
  have p1 : pagesN c (List.replicate m s) = 1 := by rw [pagesN_same h hs hm, e]; exact many_self (by omega)
  have p2 : pagesN c (List.replicate (m + 1) s) = 2 := by
    rw [pagesN_same h hs hm, e, Int.natCast_add]
    exact many_next (by omega)
  refine ⟨?_, ?_, ?_, (liveN_same h (n := m) hs hm).1⟩
  · rw [pages_on (all_same h hs hm), p1]
  · rw [pages_on (all_same h hs hm), p2]
  · unfold mostOut
    rw [if_pos (all_same h hs hm), if_pos (by simp), p1, most_sum]
    have : sumTo (moveAt (List.replicate c.cn false)) c.cn = 0 := sumTo_zero fun j hj => by
      unfold moveAt
      rw [List.getElem?_replicate, if_pos hj]
      rfl
    rw [this, Int.add_zero]
/-- j of one size, as a row of the call's own. -/
structure Rw (w0 : World) (s : Int) (j : Nat) (v : Value) (w : World) : Prop where
  own : w.ownsRow w0.heap.size 3 1 v j ((List.replicate j s).map (Value.int .i64))
  below : Below w0.heap.size w0 w

/-! ### The walk -/
set_option maxRecDepth 20000 in
set_option maxHeartbeats 4000000 in
theorem walk (c : Cf) (n : Int) (w : World) (hc : c.Ok w w.heap.size) (hcc : c.cn ≤ c.cc) (hkc : c.kn ≤ c.kc) (hn : (Lit.int .u8 n).wf = true) :
    Calls Try.prog 7 #[.agg #[.int .i64 c.size, .int .i64 c.pages, .slice c.ca c.cn c.cc, .slice c.ka c.kn c.kc, .int .i64 c.step, .int .i64 c.slots, .int .i64 c.gens, .int .i64 c.most], .int .u8 n] w fun e w' => e = .returned (.bool true) ∧ Below w.heap.size w w' := by
  have hn2 := wfu8 hn
  have B0 := Boxed.new w c
  have b0 := below1 w (.cells #[.int .i64 c.size, .int .i64 c.pages, .slice c.ca c.cn c.cc, .slice c.ka c.kn c.kc, .int .i64 c.step, .int .i64 c.slots, .int .i64 c.gens, .int .i64 c.most] 24)
  have O0 := hc.on b0
  clear hc hn
  go_enter Try.func7, Try.ntmps7
  go_wp2_with fail
  refine (awake17_any _).mono ?_
  rintro e w1 ⟨rfl, f1⟩
  have B1 := B0.on f1
  have O1 := Lib.hid (O0.on f1)
  have b1 := Lib.hid (belowT b0 f1)
  clear f1 B0 O0 b0
  have ⟨x0, x1, x2, x3, x4, x5, x6, x7, x8⟩ := B1
  have HM := refConfMay_any c w1 O1.out
  cases hB : confB c with
  | false =>
    rw [confMay_off hB] at HM
    have H := Lib.hid HM
    clear HM hB
    go_wp2_with fail
    refine H.out.mono ?_
    rintro e w2 ⟨rfl, f2⟩
    go_wp2
    go_ret
    exact ⟨rfl, belowT b1.out f2⟩
  | true =>
    rw [confMay_on hB] at HM
    have H := Lib.hid HM
    have M := Lib.hid (mayC hB)
    clear HM hB
    have hlen := O1.out.classes.len
    have hm1 : 1 ≤ c.cn ∧ c.cn ≤ 16 := by have := M.out.one; have := M.out.few; omega
    obtain ⟨m1, m2⟩ := hm1
    obtain ⟨k, hk⟩ := Int.eq_ofNat_of_zero_le (Int.emod_nonneg n (show (c.cn : Int) ≠ 0 by omega))
    have hkl : k < c.cn := by have := Int.emod_lt_of_pos n (show 0 < (c.cn : Int) by omega); omega
    have hki : (k : Int) < (c.cn : Int) := by omega
    have hk' : n.tmod (c.cn : Int) = (k : Int) := by rw [Int.tmod_eq_emod_of_nonneg hn2.1]; exact hk
    have hnz : ¬ (c.cn : Int) = 0 := by omega
    have hwk2 : IntKind.i64.wrap (k : Int) = (k : Int) := IntWalk.i64_in _ (by omega)
    obtain ⟨s, hs, s1, s2⟩ := O1.out.classes.at_ hkl
    have HLn := Lib.hid hlen
    have HS := Lib.hid hs
    clear hlen hs
    go_wp2_with fail
    refine H.out.mono ?_
    rintro e w2 ⟨rfl, f2⟩
    have B2 := B1.on f2
    have O2 := Lib.hid (O1.out.on f2)
    have b2 := Lib.hid (belowT b1.out f2)
    clear f2 b1 O1 B1 H x0 x1 x2 x3 x4 x5 x6 x7 x8
    have ⟨x0, x1, x2, x3, x4, x5, x6, x7, x8⟩ := B2
    obtain ⟨b, o, hca, _, hcl⟩ := O2.out.classes.head (by omega)
    have hcell := hcl k s HS.out
    rw [hca] at x2
    have HCA := Lib.hid hca
    clear hca hcl
    by_cases hbig : c.most < s
    · have d1 : decide (c.most < s) = true := decide_eq_true hbig
      go_wp2
      go_ret
      exact ⟨rfl, b2.out⟩
    · have d1 : decide (c.most < s) = false := decide_eq_false hbig
      have hb := M.out.blocks (k := k) (by have := HLn.out; omega)
      obtain ⟨m, hm⟩ := Int.eq_ofNat_of_zero_le (show 0 ≤ blocks c (k : Int) by omega)
      have hmb : 1 ≤ m ∧ m ≤ 512 := by omega
      obtain ⟨e1, e2, e3, e4⟩ := same_facts M.out HS.out (by omega) hm (by rw [HLn.out])
      have HB := Lib.hid (fun v (hv : Below w2.heap.size w2 v) => refBlocks_any c (k : Int) v (O2.out.on hv) (Fit.nat (by omega)))
      rw [hm] at HB
      have E1 := Lib.hid e1
      have E2 := Lib.hid e2
      obtain ⟨K, hK⟩ : ∃ K, K = sumTo (keepAt c) c.cn := ⟨_, rfl⟩
      rw [← hK] at e3
      have hkn : c.kn = c.cn := by rw [← O2.out.keep.len]; exact M.out.keep.1
      have S1 := Lib.hid (sumTo_in (f := keepAt c) (n := c.kn) (m := 1024) (by omega) (fun j _ => keepAt_in M.out j))
      have KK := Lib.hid (show sumTo (keepAt c) c.kn = K by rw [hK, hkn])
      have hKb : 0 ≤ K ∧ K ≤ 16384 := by have := S1.out c.kn (Nat.le_refl _); rw [KK.out] at this; omega
      have HKN := Lib.hid hkn
      clear hK hkn
      have E3 := Lib.hid e3
      have E4 := Lib.hid e4
      clear e1 e2 e3 e4 hm hb hk
      go_wp2
      clear x0 x1 x2 x3 x4 x5 x6 x7 x8 hcell HCA
      have N0 : Hid (Rw w2 s 0 (.slice none 0 0) w2) := Lib.hid ⟨World.ownsRow_nil _ _ _ _, Below.refl _ _⟩
      go_loopw [8, 9] (fun v i wr => ∃ j : Nat, j ≤ m ∧ i = .int .i64 (j : Int) ∧ Hid (Rw w2 s j v wr)) (fun _ i _ => m - (intOf i).toNat)
      case atStart => exact ⟨0, by omega, rfl, N0⟩
      case round =>
        obtain ⟨j, hj, rfl, HR⟩ := hrel
        clear N0
        have Bw := B2.on HR.out.below
        have ⟨x0, x1, x2, x3, x4, x5, x6, x7, x8⟩ := Bw
        by_cases hlt : j < m
        · have dj : decide ((j : Int) < (m : Int)) = true := decide_eq_true (by omega)
          have hji : (j : Int) < (m : Int) := by omega
          go_wp2_with fail
          refine (HB.out _ HR.out.below).mono ?_
          rintro e w5 ⟨rfl, f5⟩
          have h5 := HR.out.below.trans (f5.mono HR.out.below.size)
          obtain ⟨g, cap, w6, hr, ho, hg, hl⟩ := app_one (ownsRow_on HR.out.own f5) h5.size (by omega) s 22
          have HN : Hid (Rw w2 s (j + 1) (.slice (some ⟨g, 0, none⟩) (j + 1) cap) w6) := Lib.hid ⟨by
            rw [List.replicate_succ']; exact ho, by
            refine Below.grown (h5.alloc h5.size _) hg ?_ (fun i hi => ?_)
            · have := h5.size
              simp
              omega
            · exact (HR.out.own.lt i hi).1⟩
          have R := Lib.hid hr
          clear hr ho hg hl HR h5 f5
          go_wp2_with (at_builtin; refine wpList_append_run rfl _ _ rfl rfl rfl rfl R.out ?_)
          go_roundw
          case rel => exact ⟨j + 1, by omega, by go_num, HN⟩
          case measure => simp [intOf]; omega
        · have dj : decide ((j : Int) < (m : Int)) = false := decide_eq_false (by omega)
          have hji : ¬ (j : Int) < (m : Int) := by omega
          obtain rfl : j = m := by omega
          go_wp2_with fail
          refine (HB.out _ HR.out.below).mono ?_
          rintro e w5 ⟨rfl, f5⟩
          have h5 := Lib.hid (HR.out.below.trans (f5.mono HR.out.below.size))
          have W5 := ownsRow_on HR.out.own f5
          obtain ⟨g, cap, hv, hb, hg⟩ := W5.form (by omega)
          subst hv
          have hfit : ∀ x ∈ List.replicate j s, -9223372036854775808 ≤ x ∧ x ≤ 9223372036854775807 := fun x hx => by rw [List.eq_of_mem_replicate hx]; omega
          have I5 := Lib.hid (ints_own W5 (by omega) hfit).1
          have W5' := Lib.hid W5
          have B5 := B2.on h5.out
          have hmk : ∀ v, (Instr.makeSlice 33 (.int .i64 (c.cn : Int)) (.int .i64 (c.cn : Int))).run Try.prog v = .ok (.slice (some ⟨v.heap.size, 0, none⟩) c.cn c.cn) (v.alloc (falses c.cn)) := make_bools c.cn (by omega)
          clear HR f5 W5 hb hg x0 x1 x2 x3 x4 x5 x6 x7 x8 Bw
          have ⟨x0, x1, x2, x3, x4, x5, x6, x7, x8⟩ := B5
          go_wp2_with fail
          refine (pages_tb E1.out (needPages_any c (some ⟨g, 0, none⟩) j cap _ w5 (O2.out.on h5.out) M.out I5.out (by omega))).mono ?_
          rintro e w6 ⟨rfl, f6⟩
          have h6 := Lib.hid (h5.out.trans (f6.mono h5.out.size))
          have hq := below1 w6 (falses c.cn)
          have h7 := Lib.hid (h6.out.trans (hq.mono h6.out.size))
          have I7 := Lib.hid ((I5.out.on f6).on hq)
          have W7 := Lib.hid (ownsRow_on (ownsRow_on W5'.out f6) hq)
          have F7 := Lib.hid (falses_row w6 c.cn (by omega))
          have B7 := B2.on h7.out
          have B6 := B2.on h6.out
          clear hq f6 x0 x1 x2 x3 x4 x5 x6 x7 x8 h5 I5 W5' B5
          have ⟨x0, x1, x2, x3, x4, x5, x6, x7, x8⟩ := B6
          have ⟨y0, y1, y2, y3, y4, y5, y6, y7, y8⟩ := B7
          go_wp2_with fail
          refine (most_tb E3.out (needMost_any c (some ⟨g, 0, none⟩) j cap _ (some ⟨w6.heap.size, 0, none⟩) c.cn c.cn _ _ (O2.out.on h7.out) M.out I7.out (by omega) F7.out)).mono ?_
          rintro e w8 ⟨rfl, f8⟩
          have h8 := Lib.hid (h7.out.trans (f8.mono h7.out.size))
          have I8 := Lib.hid (I7.out.on f8)
          have W8 := Lib.hid (ownsRow_on W7.out f8)
          have B8 := B2.on h8.out
          clear f8 x0 x1 x2 x3 x4 x5 x6 x7 x8 y0 y1 y2 y3 y4 y5 y6 y7 y8 h7 I7 W7 F7 B7 h6 B6 hmk
          have ⟨x0, x1, x2, x3, x4, x5, x6, x7, x8⟩ := B8
          have HV := Lib.hid (needLive_any c (some ⟨g, 0, none⟩) j cap _ (k : Int) w8 (O2.out.on h8.out) M.out I8.out (by omega))
          rw [if_pos (by have := HLn.out; omega), E4.out] at HV
          go_wp2_with fail
          refine HV.out.mono ?_
          rintro e w9 ⟨rfl, f9⟩
          have h9 := Lib.hid (h8.out.trans (f9.mono h8.out.size))
          have W9 := ownsRow_on W8.out f9
          have B9 := B2.on h9.out
          obtain ⟨g2, cap2, wa, hr, ho, hg, hl⟩ := app_one W9 h9.out.size (by omega) s 22
          have hA : Below w2.heap.size w2 wa := by
            refine Below.grown (h9.out.alloc h9.out.size _) hg ?_ (fun i hi => ?_)
            · have := h9.out.size
              simp
              omega
            · exact (W9.lt i hi).1
          have ho' : wa.ownsRow w2.heap.size 3 1 (.slice (some ⟨g2, 0, none⟩) (j + 1) cap2) (j + 1) ((List.replicate (j + 1) s).map (Value.int .i64)) := by rw [List.replicate_succ']; exact ho
          have hfit2 : ∀ x ∈ List.replicate (j + 1) s, -9223372036854775808 ≤ x ∧ x ≤ 9223372036854775807 := fun x hx => by rw [List.eq_of_mem_replicate hx]; omega
          have IA := Lib.hid (ints_own ho' (by omega) hfit2).1
          have R := Lib.hid hr
          have hA' := Lib.hid hA
          have BA := B2.on hA
          clear f9 x0 x1 x2 x3 x4 x5 x6 x7 x8 h8 I8 W8 B8 HV W9 hr ho ho' hg hl hA hfit hfit2 h9 B9
          have ⟨x0, x1, x2, x3, x4, x5, x6, x7, x8⟩ := BA
          go_wp2_with (at_builtin; refine wpList_append_run rfl _ _ rfl rfl rfl rfl R.out ?_)
          refine (pages_tb E2.out (needPages_any c (some ⟨g2, 0, none⟩) (j + 1) cap2 _ wa (O2.out.on hA'.out) M.out IA.out (by omega))).mono ?_
          rintro e wc ⟨rfl, fc⟩
          have hC := Lib.hid (hA'.out.trans (fc.mono hA'.out.size))
          have KC := Lib.hid (O2.out.on hC.out).keep
          have BC := B2.on hC.out
          clear fc x0 x1 x2 x3 x4 x5 x6 x7 x8 hA' IA R BA
          have ⟨x0, x1, x2, x3, x4, x5, x6, x7, x8⟩ := BC
          go_wp2
          go_loopw [19, 20] (fun t i wr => wr = wc ∧ ∃ q : Nat, q ≤ c.kn ∧ i = .int .i64 (q : Int) ∧ t = .int .i64 (sumTo (keepAt c) q)) (fun _ i _ => c.kn - (intOf i).toNat)
          case atStart => exact ⟨rfl, 0, Nat.zero_le _, rfl, rfl⟩
          case round =>
            obtain ⟨rfl, q, hq, rfl, rfl⟩ := hrel
            by_cases hlq : q < c.kn
            · have dq : decide ((q : Int) < (c.kn : Int)) = true := decide_eq_true (by omega)
              have hqi : (q : Int) < (c.kn : Int) := by omega
              have h16 : c.kn ≤ 16 := by have := HKN.out; omega
              obtain ⟨b', o', hka, _, hcl'⟩ := KC.out.head (by omega)
              obtain ⟨y, hy, _, _⟩ := KC.out.at_ hlq
              have hcell' := hcl' q y hy
              rw [hka] at x3
              have HKA := Lib.hid hka
              have es : sumTo (keepAt c) (q + 1) = sumTo (keepAt c) q + y := by
                show sumTo (keepAt c) q + keepAt c q = _
                unfold keepAt
                rw [hy]
                rfl
              have c1 := S1.out q (by omega)
              have c2 := S1.out (q + 1) (by omega)
              rw [es] at c2
              have HX := Lib.hid es
              obtain ⟨t, et⟩ : ∃ t, t = sumTo (keepAt c) q := ⟨_, rfl⟩
              rw [← et] at HX c1 c2 ⊢
              clear es et hka hy hcl'
              go_wp2
              go_roundw
              case rel => exact ⟨trivial, q + 1, by omega, by go_num, by rw [HX.out]⟩
              case measure => simp [intOf]; omega
            · have dq : decide ((q : Int) < (c.kn : Int)) = false := decide_eq_false (by omega)
              have hqi : ¬ (q : Int) < (c.kn : Int) := by omega
              obtain rfl : q = c.kn := by omega
              rw [KK.out]
              go_wp2
              go_ret
              exact ⟨rfl, b2.out.trans (hC.out.mono b2.out.size)⟩

/-! ### The frame of the row -/
set_option maxRecDepth 100000 in
theorem lifted (os : Os) (started : os.Started) (H : Type) (enc : TypeId × Value → H) :
    ReturnsInHanded {} Try.checked os 7 .any (Rows.needBlocksSpec.pre6 enc Try.prog Try.f7 Rows.needBlocksRow.domain false) (Rows.needBlocksSpec.post enc Try.prog Try.f7 false true false false) := by
  refine returnsInHanded_of_change (C := Try.checked) own started (by kernel_rfl) Try.func7
    (ChangeSpec.witness6 (enc := enc) (C := Try.checked) false ⟨#[], #[.agg #[.int .i64 0, .int .i64 0, .slice none 0 0, .slice none 0 0, .int .i64 0, .int .i64 0, .int .i64 0, .int .i64 0], .int .u8 0], []⟩ 8 (by kernel_rfl) (by kernel_rfl) (by kernel_rfl) (by kernel_rfl)) ?_
  intro W base args ds gs before hval0 hW hcnd _
  have hval : ∀ (j : Nat) t v, Try.f7.params[j]? = some t → args[j]? = some v → Value.okWide Try.prog W .any base t v := hval0
  have hW' := hW
  obtain ⟨p, q, hA0, hV, rfl, hfz, hnd⟩ := hW
  have hA : DataW.TrodAll enc Try.prog W 0 (fun _ => true) true Try.f7.params.toList args.toList ds p := hA0
  rw [Try.params7] at hA hval
  obtain ⟨v0, vs0, d0, ds0, p0, q0, hargs, rfl, rfl, h0, r0⟩ := trodAll_cons hA
  obtain ⟨v1, vs1, d1, ds1, p1, q1, rfl, rfl, rfl, h1, r1⟩ := trodAll_cons r0
  obtain ⟨rfl, rfl, rfl⟩ := trodAll_nil r1
  obtain rfl : args = #[v0, v1] := by cases args; simp_all
  obtain ⟨rfl, rfl⟩ := trodVars_none hV
  have k0 := h0
  have lt0 : ∀ x ∈ p0, x.block < W.heap.size := by obtain ⟨m, hm⟩ := k0; exact DataW.trod_lt m _ _ _ hm
  obtain ⟨c, rfl, hc, hcc, hkc⟩ := open_conf (hval 0 24 v0 rfl rfl) h0
  obtain ⟨n, rfl, rfl, rfl, hn⟩ := open_int Try.underlying5 (hval 1 5 v1 rfl rfl) h1
  clear hA0 hval0
  refine (walk c n W hc hcc hkc hn).mono fun e W' ⟨he, bel⟩ => ?_
  subst he
  exact ⟨_, rfl, _, _, _, [], _, [], hW', trodAll_mk1 (shut_bool Try.underlying4 _), (trodAll_cons_mk (Below.trod laidOut (by kernel_rfl) (of_decide_eq_true (by kernel_rfl)) k0 bel lt0) (trodAll_cons_mk (shut_int Try.underlying5 hn) trodAll_mk0)), rfl, bel.frame _, fun h => by cases h⟩

theorem over : Rows.needBlocksRow.holds Try.pinned (OpenSpec.ofChange Rows.needBlocksSpec) :=
  OpenClaim.holds_of_wide 7 Try.f7 rfl rfl rfl rfl rfl rfl rfl ⟨rfl, rfl, rfl, rfl, rfl⟩ rfl rfl rfl rfl rfl (by kernel_rfl) Try.func7 (by kernel_rfl)
    (of_decide_eq_true (by kernel_rfl)) (by unfold Func.isWrapper; first | (rw [if_pos (by decide +kernel)]; kernel_rfl) | (rw [if_neg (by decide +kernel)]; exact ⟨rfl, rfl⟩))
    (fun os started H enc _ => lifted os started H enc)

theorem proved : Rows.NeedBlocksSaid := over
#print axioms proved
end Go.Proofs.Ytkcdehnpkephgaa.needBlocks
