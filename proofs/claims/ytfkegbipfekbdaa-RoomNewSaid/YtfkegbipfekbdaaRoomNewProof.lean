/-
  RoomNew: whatever layout comes in, the law returns true, and all memory that was there is as it was. No condition.
-/
import Derived.Test.YtfkegbipfekbdaaRows
import Derived.WalkKit
import Derived.ProofKit
import Derived.OpenShut
import Derived.Test.YtfkegbipfekbdaaZConfRefLarge
import Derived.Test.YtfkegbipfekbdaaZConfRefLarge
import Derived.Test.YtfkegbipfekbdaaZConfOpen
import Derived.Test.YtfkegbipfekbdaaZConfOpen
import Derived.ShutString
import Derived.ChangeOld
import Derived.Below
namespace Go.Proofs.Ytfkegbipfekbdaa.roomNew
open Go.ChangeShapes Go.WideShapes Go.ChangeAt Go.RowKit
open Go.ChangeMaps (open_string shut_string)
set_option linter.unusedVariables false

theorem own : ownKnob Try.prog.godebug = none := by kernel_rfl
theorem laidOut : laidOutB Try.prog = true := by kernel_rfl

/-! ### The walk -/
set_option maxRecDepth 100000 in
set_option maxHeartbeats 2000000 in
theorem walk (c : Cf) (w : World) (hc : c.Ok w w.heap.size) (hcc : c.cn ≤ c.cc) (hkc : c.kn ≤ c.kc) :
    Calls Try.prog 3 #[.agg #[.int .i64 c.size, .int .i64 c.pages, .slice c.ca c.cn c.cc, .slice c.ka c.kn c.kc, .int .i64 c.step, .int .i64 c.slots, .int .i64 c.gens, .int .i64 c.most]] w fun e w' => e = .returned (.bool true) ∧ Below w.heap.size w w' := by
  have b0 := below1 w (.cells #[.int .i64 c.size, .int .i64 c.pages, .slice c.ca c.cn c.cc, .slice c.ka c.kn c.kc, .int .i64 c.step, .int .i64 c.slots, .int .i64 c.gens, .int .i64 c.most] 24)
  have B0 := Boxed.new w c
  have O0 := hc.on b0
  have A := Lib.hid (Room.awake20_any (w.alloc (.cells #[.int .i64 c.size, .int .i64 c.pages, .slice c.ca c.cn c.cc, .slice c.ka c.kn c.kc, .int .i64 c.step, .int .i64 c.slots, .int .i64 c.gens, .int .i64 c.most] 24)))
  have HX : Hid (∀ v, Below (w.alloc (.cells #[.int .i64 c.size, .int .i64 c.pages, .slice c.ca c.cn c.cc, .slice c.ka c.kn c.kc, .int .i64 c.step, .int .i64 c.slots, .int .i64 c.gens, .int .i64 c.most] 24)).heap.size (w.alloc (.cells #[.int .i64 c.size, .int .i64 c.pages, .slice c.ca c.cn c.cc, .slice c.ka c.kn c.kc, .int .i64 c.step, .int .i64 c.slots, .int .i64 c.gens, .int .i64 c.most] 24)) v → Boxed v w.heap.size c ∧ c.Ok v v.heap.size ∧ Below w.heap.size w v) := Lib.hid fun v bv => ⟨B0.on bv, O0.on bv, belowT b0 bv⟩
  clear hc b0 B0 O0
  go_enter Try.func3, Try.ntmps3
  go_wp2_with fail
  refine A.out.mono ?_
  rintro e w1 ⟨rfl, b1⟩
  obtain ⟨x1, o1, t1⟩ := HX.out w1 b1
  obtain ⟨x10, x11, x12, x13, x14, x15, x16, x17, x18⟩ := x1
  have T1 := Lib.hid t1
  have BB1 := Lib.hid b1
  have HM := Lib.hid (fun v (bv : Below w1.heap.size w1 v) => refConfMay_any c v (HX.out v (belowT b1 bv)).2.1)
  have HXV := Lib.hid (fun v (bv : Below w1.heap.size w1 v) => HX.out v (belowT b1 bv))
  by_cases h1 : c.cn ≤ 40
  · have d1 : decide (40 < (c.cn : Int)) = false := decide_eq_false (by omega)
    by_cases h2 : c.kn ≤ 40
    · have d2 : decide (40 < (c.kn : Int)) = false := decide_eq_false (by omega)
      cases hb : confB c with
      | false =>
        have hne : confMay c ≠ 0 := by rw [confMay_off hb]; omega
        have HN := Lib.hid (Room.grnew_bad none o1 hne)
        have dz : (confMay c != 0) = true := by simpa using hne
        have de : (confMay c == confMay c) = true := by simp
        generalize confMay c = z at HN HM dz de
        clear o1 t1 b1 hb hne HX
        go_wp2_with fail
        refine HN.out.mono ?_
        rintro e w2 ⟨rfl, b2⟩
        obtain ⟨⟨y0, y1, y2, y3, y4, y5, y6, y7, y8⟩, _, _⟩ := HXV.out w2 b2
        have B2 := Lib.hid b2
        have M2 := Lib.hid (HM.out w2 b2)
        clear b2 x10 x11 x12 x13 x14 x15 x16 x17 x18
        go_wp2_with fail
        refine M2.out.mono ?_
        rintro e w3 ⟨rfl, b3⟩
        have B3 := Lib.hid (belowT B2.out b3)
        obtain ⟨⟨u0, u1, u2, u3, u4, u5, u6, u7, u8⟩, _, _⟩ := HXV.out w3 B3.out
        have M3 := Lib.hid (HM.out w3 B3.out)
        clear b3 y0 y1 y2 y3 y4 y5 y6 y7 y8 M2 B2
        go_wp2_with fail
        refine M3.out.mono ?_
        rintro e w4 ⟨rfl, b4⟩
        have B4 := Lib.hid (HXV.out w4 (belowT B3.out b4)).2.2
        clear b4 u0 u1 u2 u3 u4 u5 u6 u7 u8
        go_wp2
        go_ret
        exact ⟨rfl, B4.out⟩
      | true =>
        have HN := Lib.hid (Room.grnew_ok none o1 hb)
        have HY := Lib.hid hb
        rw [confMay_on hb] at HM
        clear o1 t1 b1 hb HX
        go_wp2_with fail
        refine HN.out.mono ?_
        rintro e w2 ⟨y, x, A2, lab, V, Q, rfl, gm, hyc, hK, _, _, b2⟩
        have k1 := gm.k1
        have GM := Lib.hid gm
        have EF := Room.new_fits (mayC HY.out) k1
        rw [← hyc] at EF
        have HF := Lib.hid EF
        obtain ⟨⟨y0, y1, y2, y3, y4, y5, y6, y7, y8⟩, _, _⟩ := HXV.out w2 b2
        have B2 := Lib.hid b2
        have M2 := Lib.hid (HM.out w2 b2)
        clear b2 x10 x11 x12 x13 x14 x15 x16 x17 x18 gm hyc hK EF k1 HN
        go_wp2_with fail
        refine M2.out.mono ?_
        rintro e w3 ⟨rfl, b3⟩
        have B3 := Lib.hid (HXV.out w3 (belowT B2.out b3)).2.2
        have G1 := Lib.hid (Room.gheld_any (GM.out.below b3))
        have G2 := Lib.hid (fun n => Room.gopen_any ((GM.out.below b3).drewN n) 0)
        have G3 := Lib.hid (fun n => Room.gfits_any ((GM.out.below b3).drewN n) 1 (by omega))
        rw [Room.new_held] at G1
        rw [Room.new_open] at G2
        rw [HF.out] at G3
        clear b3 y0 y1 y2 y3 y4 y5 y6 y7 y8 M2 B2 GM HF
        go_wp2_with fail
        refine G1.out.mono ?_
        rintro e w' ⟨rfl, n, rfl⟩
        go_wp2_with fail
        refine (G2.out n).mono ?_
        rintro e w' ⟨rfl, rfl⟩
        go_wp2_with fail
        refine (G3.out n).mono ?_
        rintro e w5 ⟨rfl, b5⟩
        have B5 := Lib.hid (belowT (belowN B3.out n) b5)
        clear b5
        go_wp2
        go_ret
        exact ⟨rfl, B5.out⟩
    · have d2 : decide (40 < (c.kn : Int)) = true := decide_eq_true (by omega)
      clear o1 t1 b1 HX
      go_wp2
      go_ret
      exact ⟨rfl, T1.out⟩
  · have d1 : decide (40 < (c.cn : Int)) = true := decide_eq_true (by omega)
    clear o1 t1 b1 HX
    go_wp2
    go_ret
    exact ⟨rfl, T1.out⟩

/-! ### The frame of the row -/
set_option maxRecDepth 100000 in
theorem lifted (os : Os) (started : os.Started) (H : Type) (enc : TypeId × Value → H) :
    ReturnsInHanded {} Try.checked os 3 .any (Rows.roomNewSpec.pre6 enc Try.prog Try.f3 Rows.roomNewRow.domain false) (Rows.roomNewSpec.post enc Try.prog Try.f3 false true false false) := by
  refine returnsInHanded_of_change (C := Try.checked) own started (by kernel_rfl) Try.func3
    (ChangeSpec.witness6 (enc := enc) (C := Try.checked) false ⟨#[], #[.agg #[.int .i64 0, .int .i64 0, .slice none 0 0, .slice none 0 0, .int .i64 0, .int .i64 0, .int .i64 0, .int .i64 0]], []⟩ 8 (by kernel_rfl) (by kernel_rfl) (by kernel_rfl) (by kernel_rfl)) ?_
  intro W base args ds gs before hval0 hW hcnd _
  have hval : ∀ (j : Nat) t v, Try.f3.params[j]? = some t → args[j]? = some v → Value.okWide Try.prog W .any base t v := hval0
  have hW' := hW
  obtain ⟨p, q, hA0, hV, rfl, hfz, hnd⟩ := hW
  have hA : DataW.TrodAll enc Try.prog W 0 (fun _ => true) true Try.f3.params.toList args.toList ds p := hA0
  rw [Try.params3] at hA hval
  obtain ⟨v0, vs0, d0, ds0, p0, q0, hargs, rfl, rfl, h0, r0⟩ := trodAll_cons hA
  obtain ⟨rfl, rfl, rfl⟩ := trodAll_nil r0
  obtain rfl : args = #[v0] := by cases args; simp_all
  obtain ⟨rfl, rfl⟩ := trodVars_none hV
  have k0 := h0
  have lt0 : ∀ x ∈ p0, x.block < W.heap.size := by obtain ⟨m, hm⟩ := k0; exact DataW.trod_lt m _ _ _ hm
  obtain ⟨c, rfl, hc, hcc, hkc⟩ := open_conf (hval 0 24 v0 rfl rfl) h0
  clear hA0 hval0
  refine (walk c W hc hcc hkc).mono fun e W' ⟨he, bel⟩ => ?_
  subst he
  exact ⟨_, rfl, _, _, _, [], _, [], hW', trodAll_mk1 (shut_bool Try.underlying4 _), (trodAll_cons_mk (Below.trod laidOut (by kernel_rfl) (of_decide_eq_true (by kernel_rfl)) k0 bel lt0) trodAll_mk0), rfl, bel.frame _, fun h => by cases h⟩

theorem over : Rows.roomNewRow.holds Try.pinned (OpenSpec.ofChange Rows.roomNewSpec) :=
  OpenClaim.holds_of_wide 3 Try.f3 rfl rfl rfl rfl rfl rfl rfl ⟨rfl, rfl, rfl, rfl, rfl⟩ rfl rfl rfl rfl rfl (by kernel_rfl) Try.func3 (by kernel_rfl)
    (of_decide_eq_true (by kernel_rfl)) (by unfold Func.isWrapper; first | (rw [if_pos (by decide +kernel)]; kernel_rfl) | (rw [if_neg (by decide +kernel)]; exact ⟨rfl, rfl⟩))
    (fun os started H enc _ => lifted os started H enc)

theorem proved : Rows.RoomNewSaid := over
#print axioms proved
end Go.Proofs.Ytfkegbipfekbdaa.roomNew
