/-
  RoomNobody: of a room that is nil nothing is told. No condition.
-/
import Derived.Test.YtfkegbipfekbdaaRows
import Derived.WalkKit
import Derived.ProofKit
import Derived.OpenShut
import Derived.Test.YtfkegbipfekbdaaZRmAwake
import Derived.ShutString
import Derived.ChangeOld
import Derived.Below
namespace Go.Proofs.Ytfkegbipfekbdaa.roomNobody
open Go.ChangeShapes Go.WideShapes Go.ChangeAt Go.RowKit
open Go.ChangeMaps (open_string shut_string)
set_option linter.unusedVariables false

theorem own : ownKnob Try.prog.godebug = none := by kernel_rfl
theorem laidOut : laidOutB Try.prog = true := by kernel_rfl

/-! ### The walk -/
set_option maxRecDepth 100000 in
set_option maxHeartbeats 2000000 in
theorem walk (n : Int) (at_ : Int) (w : World) (hn : (Lit.int .i64 n).wf = true) (hat_ : (Lit.int .i64 at_).wf = true) :
    Calls Try.prog 4 #[.int .i64 n, .int .i64 at_] w fun e w' => e = .returned (.bool true) ∧ Below w.heap.size w w' := by
  have A := Lib.hid (Room.awake20_any w)
  clear hat_ hn
  go_enter Try.func4, Try.ntmps4
  go_wp2_with fail
  refine A.out.mono ?_
  rintro e w0 ⟨rfl, h0⟩
  have H0 := Lib.hid h0
  clear h0
  go_wp2_with fail
  refine (Room.gplace_nil 0 1 w0).mono ?_
  rintro e w1 ⟨rfl, h1⟩
  have H1 := Lib.hid (belowT H0.out h1)
  clear h1 H0
  have H2 := Lib.hid (belowT H1.out (below1 w1 (.cells #[.int .i64 0, .int .i64 0, .int .i64 0, .slice none 0 0] 36)))
  go_wp2_with fail
  generalize w1.alloc (.cells #[.int .i64 0, .int .i64 0, .int .i64 0, .slice none 0 0] 36) = w2 at H2 ⊢
  clear H1
  refine (Room.gtake_nil n 0 w2).mono ?_
  rintro e w' ⟨rfl, rfl⟩
  have HP := Lib.hid (Room.gplan_nil n w2)
  unfold Sh.planV at HP
  go_wp2_with fail
  refine HP.out.mono ?_
  rintro e w3 ⟨rfl, h3⟩
  have H3 := Lib.hid (belowT (belowT H2.out h3) (below1 w3 (.cells #[.int .i64 0, .int .i64 0, .int .i64 0, .int .i64 0] 42)))
  clear h3 H2 HP
  go_wp2_with fail
  generalize w3.alloc (.cells #[.int .i64 0, .int .i64 0, .int .i64 0, .int .i64 0] 42) = w4 at H3 ⊢
  refine (Room.gfits_nil n w4).mono ?_
  rintro e w' ⟨rfl, rfl⟩
  have HD1 := Lib.hid (Room.gdrop_nil ⟨n, at_, 0, []⟩ none 0 0 w4)
  dsimp only at HD1
  go_wp2_with fail
  refine HD1.out.mono ?_
  rintro e w5 ⟨rfl, h5⟩
  have H5 := Lib.hid (belowT H3.out h5)
  have HD2 := Lib.hid (Room.gdrop_nil ⟨-1, 0, 0, []⟩ none 0 0 w5)
  dsimp only at HD2
  clear h5 H3 HD1
  go_wp2_with fail
  refine HD2.out.mono ?_
  rintro e w6 ⟨rfl, h6⟩
  have H6 := Lib.hid (belowT H5.out h6)
  clear h6 H5 HD2
  go_wp2_with fail
  refine (Room.ggive_nil n at_ at_ w6).mono ?_
  rintro e w' ⟨rfl, rfl⟩
  go_wp2_with fail
  refine (Room.gown_nil n at_ at_ 1 w6).mono ?_
  rintro e w' ⟨rfl, rfl⟩
  go_wp2_with fail
  refine (Room.gowner_nil n at_ at_ w6).mono ?_
  rintro e w' ⟨rfl, rfl⟩
  go_wp2_with fail
  refine (Room.gopen_nil n w6).mono ?_
  rintro e w' ⟨rfl, rfl⟩
  go_wp2_with fail
  refine (Room.gused_nil n w6).mono ?_
  rintro e w' ⟨rfl, rfl⟩
  go_wp2_with fail
  refine (Room.gheld_nil w6).mono ?_
  rintro e w' ⟨rfl, rfl⟩
  go_wp2
  go_ret
  exact ⟨rfl, H6.out⟩

/-! ### The frame of the row -/
set_option maxRecDepth 100000 in
theorem lifted (os : Os) (started : os.Started) (H : Type) (enc : TypeId × Value → H) :
    ReturnsInHanded {} Try.checked os 4 .any (Rows.roomNobodySpec.pre6 enc Try.prog Try.f4 Rows.roomNobodyRow.domain false) (Rows.roomNobodySpec.post enc Try.prog Try.f4 false true false false) := by
  refine returnsInHanded_of_change (C := Try.checked) own started (by kernel_rfl) Try.func4
    (ChangeSpec.witness6 (enc := enc) (C := Try.checked) false ⟨#[], #[.int .i64 0, .int .i64 0], []⟩ 8 (by kernel_rfl) (by kernel_rfl) (by kernel_rfl) (by kernel_rfl)) ?_
  intro W base args ds gs before hval0 hW hcnd _
  have hval : ∀ (j : Nat) t v, Try.f4.params[j]? = some t → args[j]? = some v → Value.okWide Try.prog W .any base t v := hval0
  have hW' := hW
  obtain ⟨p, q, hA0, hV, rfl, hfz, hnd⟩ := hW
  have hA : DataW.TrodAll enc Try.prog W 0 (fun _ => true) true Try.f4.params.toList args.toList ds p := hA0
  rw [Try.params4] at hA hval
  obtain ⟨v0, vs0, d0, ds0, p0, q0, hargs, rfl, rfl, h0, r0⟩ := trodAll_cons hA
  obtain ⟨v1, vs1, d1, ds1, p1, q1, rfl, rfl, rfl, h1, r1⟩ := trodAll_cons r0
  obtain ⟨rfl, rfl, rfl⟩ := trodAll_nil r1
  obtain rfl : args = #[v0, v1] := by cases args; simp_all
  obtain ⟨rfl, rfl⟩ := trodVars_none hV
  obtain ⟨n, rfl, rfl, rfl, hn⟩ := open_int Try.underlying3 (hval 0 3 v0 rfl rfl) h0
  obtain ⟨at_, rfl, rfl, rfl, hat_⟩ := open_int Try.underlying3 (hval 1 3 v1 rfl rfl) h1
  clear hA0 hval0
  refine (walk n at_ W hn hat_).mono fun e W' ⟨he, bel⟩ => ?_
  subst he
  exact ⟨_, rfl, _, _, _, [], _, [], hW', trodAll_mk1 (shut_bool Try.underlying4 _), (trodAll_cons_mk (shut_int Try.underlying3 hn) (trodAll_cons_mk (shut_int Try.underlying3 hat_) trodAll_mk0)), rfl, bel.frame _, fun h => by cases h⟩

theorem over : Rows.roomNobodyRow.holds Try.pinned (OpenSpec.ofChange Rows.roomNobodySpec) :=
  OpenClaim.holds_of_wide 4 Try.f4 rfl rfl rfl rfl rfl rfl rfl ⟨rfl, rfl, rfl, rfl, rfl⟩ rfl rfl rfl rfl rfl (by kernel_rfl) Try.func4 (by kernel_rfl)
    (of_decide_eq_true (by kernel_rfl)) (by unfold Func.isWrapper; first | (rw [if_pos (by decide +kernel)]; kernel_rfl) | (rw [if_neg (by decide +kernel)]; exact ⟨rfl, rfl⟩))
    (fun os started H enc _ => lifted os started H enc)

theorem proved : Rows.RoomNobodySaid := over
#print axioms proved
end Go.Proofs.Ytfkegbipfekbdaa.roomNobody
