/-
  ArenaOwn: whatever bytes and whatever place come in, the law returns true, and the input reads behind the call as it did.
-/
import Derived.Test.YtnopeifgcpibaaaRows
import Derived.WalkKit
import Derived.ProofKit
import Derived.OpenShut
import Derived.Test.YtnopeifgcpibaaaArenaAwake
import Derived.Test.YtnopeifgcpibaaaArenaMade
import Derived.Test.YtnopeifgcpibaaaBytesOpen
import Derived.ShutString
import Derived.ChangeOld
import Derived.Below
namespace Go.Proofs.Ytnopeifgcpibaaa.arenaOwn
open Go.ChangeShapes Go.WideShapes Go.ChangeAt Go.RowKit
open Go.ChangeMaps (open_string shut_string)
set_option linter.unusedVariables false

theorem own : ownKnob Try.prog.godebug = none := by kernel_rfl
theorem laidOut : laidOutB Try.prog = true := by kernel_rfl

/-! ### The walk -/
theorem walk (ab : Option Addr) (lb cb : Nat) (b : List Int) (k : Int) (w : World) (hb : Bytes w w.heap.size ab lb b) (hcb : lb ≤ cb) (hk : (Lit.int .u8 k).wf = true) :
    Calls Try.prog 7 #[.slice ab lb cb, .int .u8 k] w fun e w' => e = .returned (.bool true) ∧ Below w.heap.size w w' := by
  have hmax := hb.max
  have hk2 := wf_u8 hk
  clear hk
  go_enter Try.func7, Try.ntmps7
  go_wp2_with fail
  refine (awake06_any w).mono ?_
  rintro e w0 ⟨rfl, h0⟩
  by_cases h64 : lb = 64
  · subst h64
    go_wp2_with fail
    refine (arenaNew_ok 1 64 none 0 0 w0 (by decide) (Mo.nobody _ _ _) (fun q e => by cases e)).mono ?_
    rintro e w1 ⟨p, q, rfl, a1, b1, hp, hq⟩
    have B1 := Lib.hid (belowT h0 b1)
    have HW := Lib.hid (write_whole (c := cb) a1 (by simp) (hb.below B1.out) B1.out.size (fun g e => by cases e))
    have HQ := Lib.hid (Nat.le_trans h0.size hq)
    clear a1 b1 hp hq h0
    go_wp2_with fail
    refine HW.out.mono ?_
    rintro e w2 ⟨rfl, a2, b2⟩
    have B2 := Lib.hid (B1.out.trans (Ar.mine b2 B1.out.size HQ.out (fun g e => by cases e)))
    have HR := Lib.hid (read_whole a2 hb.len)
    have S2 := Lib.hid (And.intro a2.size a2.row.size)
    clear a2 b2 HW B1
    go_wp2_with fail
    refine HR.out.mono ?_
    rintro e w3 ⟨g, rfl, r3, a3, b3, hg⟩
    have B3 := Lib.hid (B2.out.trans (Ar.mine b3 B2.out.size HQ.out (fun g e => by cases e)))
    obtain ⟨j, hj⟩ : ∃ j : Nat, k % 64 = (j : Int) := ⟨(k % 64).toNat, by omega⟩
    have hj2 : k.tmod 64 = (j : Int) := by rw [Int.tmod_eq_emod_of_nonneg (by omega)]; exact hj
    have hj64 : j < 64 := by omega
    have hcell := r3.cell j _ (List.getElem?_eq_getElem (by rw [hb.len]; exact hj64))
    have hfree := r3.free j (by rw [hb.len]; exact hj64)
    generalize b[j]'(by rw [hb.len]; exact hj64) = s at hcell
    have A4 : Hid (∀ v, Ar (w3.setCell ⟨g, j, none⟩ v) p q none b 0 0) := Lib.hid (fun v => (a3.but ((But.refl (· = g) w3).setCell (p := ⟨g, j, none⟩) (fun _ => rfl) v) (fun e => by have := S2.out; omega) (fun e => by have := S2.out; omega) (fun _ e => by cases e)).free 0 0)
    have B4 : Hid (∀ v, Below w.heap.size w (w3.setCell ⟨g, j, none⟩ v)) := Lib.hid (fun v => B3.out.trans (((But.refl (· = g) w3).setCell (p := ⟨g, j, none⟩) (fun _ => rfl) v).one B3.out.size (by have := B2.out.size; omega)))
    clear a3 b3 hg HR r3
    go_wp2_with fail
    refine (read_whole (A4.out _) hb.len).mono ?_
    rintro e w5 ⟨g5, rfl, r5, a5, b5, hg5⟩
    have B5 := Lib.hid ((B4.out _).trans (Ar.mine b5 (B4.out _).size HQ.out (fun g e => by cases e)))
    have hs1 : (convert 31 9 (.slice (some ⟨g5, 0, none⟩) 64 64)).run Try.prog w5 = .ok (.string (strOfNums b)) w5 := string_run (r5.all hb.len)
    have hs2 : (convert 31 9 (.slice ab 64 cb)).run Try.prog w5 = .ok (.string (strOfNums b)) w5 := string_run (hb.below B5.out)
    generalize strOfNums b = S at hs1 hs2
    clear a5 b5 hg5 r5 A4 B4 hcell hfree
    go_wp2_with fail
    refine (read_nil 0 0 w5).mono ?_
    rintro e w6 ⟨rfl, rfl⟩
    go_wp2_with fail
    refine (load_nil 0 w5).mono ?_
    rintro e w6 ⟨rfl, rfl⟩
    go_wp2_with fail
    refine (len_nil w5).mono ?_
    rintro e w6 ⟨rfl, rfl⟩
    go_wp2_with fail
    refine (write_nil 0 none 0 0 w5 (by omega)).mono ?_
    rintro e w6 ⟨rfl, rfl⟩
    go_wp2_with fail
    refine (fill_nil 0 0 0 w5).mono ?_
    rintro e w6 ⟨rfl, rfl⟩
    go_wp2_with fail
    refine (copy_nil 0 0 0 w5).mono ?_
    rintro e w6 ⟨rfl, rfl⟩
    go_wp2_with fail
    refine (store_nil 0 0 w5).mono ?_
    rintro e w6 ⟨rfl, rfl⟩
    go_wp2
    go_ret
    exact ⟨rfl, B5.out⟩
  · have d : (((lb : Int)) != 64) = true := by simp; omega
    go_wp2
    go_ret
    exact ⟨rfl, h0⟩

/-! ### The frame of the row -/
set_option maxRecDepth 100000 in
theorem lifted (os : Os) (started : os.Started) (H : Type) (enc : TypeId × Value → H) :
    ReturnsInHanded {} Try.checked os 7 .any (Rows.arenaOwnSpec.pre6 enc Try.prog Try.f7 Rows.arenaOwnRow.domain false) (Rows.arenaOwnSpec.post enc Try.prog Try.f7 false true false false) := by
  refine returnsInHanded_of_change (C := Try.checked) own started (by kernel_rfl) Try.func7
    (ChangeSpec.witness6 (enc := enc) (C := Try.checked) false ⟨#[], #[.slice none 0 0, .int .u8 0], []⟩ 8 (by kernel_rfl) (by kernel_rfl) (by kernel_rfl) (by kernel_rfl)) ?_
  intro W base args ds gs before hval0 hW hcnd _
  have hval : ∀ (j : Nat) t v, Try.f7.params[j]? = some t → args[j]? = some v → Value.okWide Try.prog W .any base t v := hval0
  have hW' := hW
  obtain ⟨p, q, hA0, hV, rfl, hfz, hnd⟩ := hW
  have hA : DataW.TrodAll enc Try.prog W 0 (fun _ => true) true Try.f7.params.toList args.toList ds p := hA0
  rw [Try.params7] at hA hval
  obtain ⟨v0, vs0, d0, ds0, p0, q0, hargs, rfl, rfl, h0, r0⟩ := trodAll_cons hA
  obtain ⟨v1, vs1, d1, ds1, p1, q1, rfl, rfl, rfl, h1, r1⟩ := trodAll_cons r0
  obtain ⟨rfl, rfl, rfl⟩ := trodAll_nil r1
  obtain rfl : args = #[v0, v1] := by cases args; simp_all
  obtain ⟨rfl, rfl⟩ := trodVars_none hV
  have k0 := h0
  have lt0 : ∀ x ∈ p0, x.block < W.heap.size := by obtain ⟨m, hm⟩ := k0; exact DataW.trod_lt m _ _ _ hm
  obtain ⟨ab, lb, cb, rfl⟩ := okWide_slice Try.underlying31 (hval 0 31 v0 rfl rfl)
  obtain ⟨b, hcb, hb⟩ : ∃ xs, lb ≤ cb ∧ Bytes W W.heap.size ab lb xs := by
    obtain ⟨fuel, hf⟩ := h0
    obtain ⟨a, l, c, xs, e, hl, hi⟩ := bytes_field (by simpa [Value.cells] using hf)
    injection e with e1 e2 e3
    subst e1 e2 e3
    exact ⟨xs, hl, hi⟩
  obtain ⟨k, rfl, rfl, rfl, hk⟩ := open_int Try.underlying5 (hval 1 5 v1 rfl rfl) h1
  clear hA0 hval0
  refine (walk ab lb cb b k W hb hcb hk).mono fun e W' ⟨he, bel⟩ => ?_
  subst he
  exact ⟨_, rfl, _, _, _, [], _, [], hW', trodAll_mk1 (shut_bool Try.underlying4 _), (trodAll_cons_mk (Below.trod laidOut (by kernel_rfl) (of_decide_eq_true (by kernel_rfl)) k0 bel lt0) (trodAll_cons_mk (shut_int Try.underlying5 hk) trodAll_mk0)), rfl, bel.frame _, fun h => by cases h⟩

theorem over : Rows.arenaOwnRow.holds Try.pinned (OpenSpec.ofChange Rows.arenaOwnSpec) :=
  OpenClaim.holds_of_wide 7 Try.f7 rfl rfl rfl rfl rfl rfl rfl ⟨rfl, rfl, rfl, rfl, rfl⟩ rfl rfl rfl rfl rfl (by kernel_rfl) Try.func7 (by kernel_rfl)
    (of_decide_eq_true (by kernel_rfl)) (by unfold Func.isWrapper; first | (rw [if_pos (by decide +kernel)]; kernel_rfl) | (rw [if_neg (by decide +kernel)]; exact ⟨rfl, rfl⟩))
    (fun os started H enc _ => lifted os started H enc)

theorem proved : Rows.ArenaOwnSaid := over
#print axioms proved
end Go.Proofs.Ytnopeifgcpibaaa.arenaOwn
