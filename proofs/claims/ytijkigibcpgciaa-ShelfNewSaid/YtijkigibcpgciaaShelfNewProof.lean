/-
  ShelfNew: a shelf of any class, of any blocks a page, or what forbids it. No condition.
-/
import Derived.Test.YtijkigibcpgciaaRows
import Derived.WalkKit
import Derived.ProofKit
import Derived.OpenShut
import Derived.Test.YtijkigibcpgciaaShAwake
import Derived.Test.YtijkigibcpgciaaPgRef
import Derived.ShutString
import Derived.ChangeOld
import Derived.Below
namespace Go.Proofs.Ytijkigibcpgciaa.shelfNew
open Go.ChangeShapes Go.WideShapes Go.ChangeAt Go.RowKit
open Go.ChangeMaps (open_string shut_string)
set_option linter.unusedVariables false

theorem own : ownKnob Try.prog.godebug = none := by kernel_rfl
theorem laidOut : laidOutB Try.prog = true := by kernel_rfl

/-- One block is taken of a new shelf on two pages. -/
theorem first_take (c : Int) (B : Nat) (hB : 1 ≤ B) : Sh.takeOut c B ⟨Pl.freed 2, Pl.turns 2, [], []⟩ 4 = (⟨[c, -1], [1], [(0, (List.replicate B (-1)).set 0 4)], if B = 1 then [] else [0]⟩, 0, 0, 0) := by
  have hh : Pg.holeOf (List.replicate B (-1)) = ((0 : Nat) : Int) := Pg.hole_at (by rw [List.length_replicate]; omega) (by unfold Pg.ow; rw [List.getElem?_replicate]; split <;> rfl) (fun j hj => by omega)
  obtain ⟨h1, h2, _⟩ := Pg.take_at (o := 4) (by omega) hh
  have eg : Sh.growS c B ⟨Pl.freed 2, Pl.turns 2, [], []⟩ = ⟨[c, -1], [1], [(0, List.replicate B (-1))], [0]⟩ := rfl
  unfold Sh.takeOut
  rw [if_neg (by omega), if_neg (by rintro ⟨_, h⟩; cases h), if_pos rfl, eg]
  have ep : Sh.pageAt ⟨[c, -1], [1], [(0, List.replicate B (-1))], [0]⟩ 0 = List.replicate B (-1) := by simp [Sh.pageAt, Sh.getP]
  show (Sh.fillS _ 0 4 (Sh.pageAt ⟨[c, -1], [1], [(0, List.replicate B (-1))], [0]⟩ 0), (0 : Int), Pg.takeA (Sh.pageAt ⟨[c, -1], [1], [(0, List.replicate B (-1))], [0]⟩ 0) 4, (0 : Int)) = _
  rw [ep, h2]
  unfold Sh.fillS
  rw [h1]
  have hl : Pg.holeOf ((List.replicate B (-1)).set 0 4) = -1 ↔ B = 1 := by
    constructor
    · intro q
      rcases Nat.lt_or_ge 1 B with g | g
      · have : Pg.holeOf ((List.replicate B (-1)).set 0 4) = ((1 : Nat) : Int) := Pg.hole_at (by simp; omega) (by rw [Pg.ow_set (by simp; omega), if_neg (by omega)]; unfold Pg.ow; rw [List.getElem?_replicate]; split <;> rfl) (fun j hj => by rw [Pg.ow_set (by simp; omega), if_pos (by omega)]; omega)
        omega
      · omega
    · rintro rfl
      rfl
  by_cases e : B = 1
  · rw [if_pos (hl.2 e), if_pos e]
    simp [Sh.setP]
  · rw [if_neg (fun q => e (hl.1 q)), if_neg e]
    simp [Sh.setP]

/-! ### The walk -/
set_option maxRecDepth 100000 in
set_option maxHeartbeats 4000000 in
theorem walk (cls : Int) (blocks : Int) (w : World) (hcls : (Lit.int .i64 cls).wf = true) (hblocks : (Lit.int .i64 blocks).wf = true) :
    Calls Try.prog 4 #[.int .i64 cls, .int .i64 blocks] w fun e w' => e = .returned (.bool true) ∧ Below w.heap.size w w' := by
  have A := Lib.hid (Sh.awake13_any w)
  have HN : Hid (∀ w, Calls Try.prog 10 #[.int .i64 2] w fun e w' => ∃ p a, e = .returned (.tuple #[.pointer (some ⟨p, 0, none⟩), .int .i64 0]) ∧ Pl.Pm w' p a 2 (Pl.freed 2) (Pl.turns 2) ∧ Below w.heap.size w w' ∧ w.heap.size ≤ p ∧ w.heap.size ≤ a) := Lib.hid fun w => Pl.new_ok 2 w (by omega) (by omega)
  have cfit := wf_int hcls
  clear hcls hblocks
  by_cases hc : cls < 0
  · have d1 : decide (cls < 0) = true := by simpa using hc
    have HR : Hid (∀ v, Calls Try.prog 16 #[.int .i64 blocks] v fun e w' => (∃ y z : Value, ∃ t : Int, e = .returned (.tuple #[y, .int .i64 t])) ∧ Below v.heap.size v w') := Lib.hid fun v => by
      by_cases hm : blocks < 1 ∨ 512 < blocks
      · refine (Pg.refPageNew_bad blocks hm v).mono ?_
        rintro e w' ⟨rfl, rfl⟩
        exact ⟨⟨_, .nilFunc, _, rfl⟩, Below.refl _ _⟩
      · obtain ⟨n, rfl⟩ : ∃ n : Nat, blocks = (n : Int) := ⟨blocks.toNat, by omega⟩
        refine (Pg.refPageNew_ok n (by omega) (by omega) v).mono ?_
        rintro e w' ⟨g, c, rfl, _, _, b2⟩
        exact ⟨⟨_, .nilFunc, _, rfl⟩, b2⟩
    go_enter Try.func4, Try.ntmps4
    go_wp2_with fail
    refine A.out.mono ?_
    rintro e w0 ⟨rfl, h0⟩
    have H0 := Lib.hid h0
    clear h0
    go_wp2_with fail
    refine (HN.out _).mono ?_
    rintro e w1 ⟨pp, pa, rfl, _, b1, _⟩
    have B1 := Lib.hid (belowT H0.out b1)
    clear b1 H0
    go_wp2_with fail
    refine (Sh.shNew_class pp cls blocks hc w1).mono ?_
    rintro e w2 ⟨rfl, rfl⟩
    go_wp2_with fail
    refine (HR.out _).mono ?_
    rintro e w2 ⟨⟨y, _, t, rfl⟩, b2⟩
    have B2 := Lib.hid (belowT B1.out b2)
    clear b2 B1
    go_wp2
    go_ret
    exact ⟨rfl, B2.out⟩
  · have d1 : decide (cls < 0) = false := by simpa using hc
    by_cases hm : blocks < 1 ∨ 512 < blocks
    · have HS := Lib.hid fun p v => Sh.shNew_blocks p cls blocks (by omega) hm v
      have HR := Lib.hid (Pg.refPageNew_bad blocks hm)
      clear hc hm
      go_enter Try.func4, Try.ntmps4
      go_wp2_with fail
      refine A.out.mono ?_
      rintro e w0 ⟨rfl, h0⟩
      have H0 := Lib.hid h0
      clear h0
      go_wp2_with fail
      refine (HN.out _).mono ?_
      rintro e w1 ⟨pp, pa, rfl, _, b1, _⟩
      have B1 := Lib.hid (belowT H0.out b1)
      clear b1 H0
      go_wp2_with fail
      refine (HS.out pp w1).mono ?_
      rintro e w2 ⟨rfl, rfl⟩
      go_wp2_with fail
      refine (HR.out _).mono ?_
      rintro e w2 ⟨rfl, rfl⟩
      go_wp2
      go_ret
      exact ⟨rfl, B1.out⟩
    · obtain ⟨B, rfl⟩ : ∃ B : Nat, blocks = (B : Int) := ⟨blocks.toNat, by omega⟩
      have hB1 : 1 ≤ B := by omega
      have HR := Lib.hid (Pg.refPageNew_ok B (by omega) (by omega))
      have FT := Lib.hid (first_take cls B hB1)
      have HS : Hid (∀ v w1 pp pa, Pl.Pm w1 pp pa 2 (Pl.freed 2) (Pl.turns 2) → Below v.heap.size v w1 → v.heap.size ≤ pp → v.heap.size ≤ pa → Calls Try.prog 11 #[.pointer (some ⟨pp, 0, none⟩), .int .i64 cls, .int .i64 (B : Int)] w1 fun e w2 => ∃ x : Sh.Fx, e = .returned (.tuple #[.pointer (some ⟨x.s, 0, none⟩), .int .i64 0]) ∧ (x.pp = pp ∧ x.K = 2 ∧ x.B = B ∧ x.c = cls) ∧ Sh.Hx v x ⟨Pl.freed 2, Pl.turns 2, [], []⟩ w2) := Lib.hid fun v w1 pp pa r1 b1 l1 l2 => (Sh.shNew_ok r1 cls (by omega) cfit.2 B (by omega) (by omega)).mono fun e w2 h => Sh.Hx.new b1 l1 l2 h
      have hwr : IntKind.i64.wrap ((B : Int) - 1) = (B : Int) - 1 := IntWalk.i64_in _ (by omega)
      have B512 := Lib.hid (show B ≤ 512 by omega)
      clear hc hm cfit
      go_enter Try.func4, Try.ntmps4
      go_wp2_with fail
      refine A.out.mono ?_
      rintro e w0 ⟨rfl, h0⟩
      have H0 := Lib.hid h0
      clear h0
      go_wp2_with fail
      refine (HN.out _).mono ?_
      rintro e w1 ⟨pp, pa, rfl, r1, b1, l1, l2⟩
      have HS1 := Lib.hid (HS.out w0 w1 pp pa r1 b1 l1 l2)
      clear b1 r1 l1 l2 HS HN
      go_wp2_with fail
      refine HS1.out.mono ?_
      rintro e w2 ⟨x, rfl, ⟨hpp, hK, hB, hcc⟩, h2⟩
      have H2 := Lib.hid h2
      have FX := Lib.hid (show x.B = B ∧ x.c = cls from ⟨hB, hcc⟩)
      have EP := Lib.hid hpp
      clear h2 hK hB hcc hpp HS1
      go_wp2_with fail
      refine (HR.out _).mono ?_
      rintro e w3 ⟨g, c, rfl, _, _, b3⟩
      have C1 := Lib.hid ((H2.out.grow b3).take 4 (by omega))
      rw [FX.out.1, FX.out.2, FT.out] at C1
      clear b3 H2 HR FX FT
      go_wp2_with fail
      refine C1.out.mono ?_
      rintro e w4 ⟨rfl, h4⟩
      have D1 : Hid (Calls Try.prog 18 #[.pointer (some ⟨pp, 0, none⟩), .int .i64 0] w4 (R1 cls w4)) := Lib.hid (by have := h4.powner 0; rw [EP.out] at this; exact this)
      have HB : Hid (Below w.heap.size w w4) := Lib.hid (by obtain ⟨_, _, _, _, b⟩ := h4; exact belowT H0.out b)
      rcases (by omega : B = 1 ∨ 2 ≤ B) with e1 | e1
      · subst e1
        have D2 : Hid (Calls Try.prog 19 #[.pointer (some ⟨x.s, 0, none⟩)] w4 (R1 0 w4)) := Lib.hid h4.opens
        clear h4 C1 EP H0
        go_wp2_with fail
        refine D1.out.mono ?_
        rintro e w' ⟨rfl, rfl⟩
        go_wp2_with fail
        refine D2.out.mono ?_
        rintro e w' ⟨rfl, rfl⟩
        go_wp2
        go_ret
        exact ⟨by first | rfl | simp, HB.out⟩
      · have D2 : Hid (Calls Try.prog 19 #[.pointer (some ⟨x.s, 0, none⟩)] w4 (R1 1 w4)) := Lib.hid (by have := h4.opens; rw [if_neg (by omega)] at this; exact this)
        clear h4 C1 EP H0
        go_wp2_with fail
        refine D1.out.mono ?_
        rintro e w' ⟨rfl, rfl⟩
        go_wp2_with fail
        refine D2.out.mono ?_
        rintro e w' ⟨rfl, rfl⟩
        go_wp2
        all_goals
          go_ret
          exact ⟨by first | rfl | (simp; done) | (simp; omega), HB.out⟩

/-! ### The frame of the row -/
set_option maxRecDepth 100000 in
theorem lifted (os : Os) (started : os.Started) (H : Type) (enc : TypeId × Value → H) :
    ReturnsInHanded {} Try.checked os 4 .any (Rows.shelfNewSpec.pre6 enc Try.prog Try.f4 Rows.shelfNewRow.domain false) (Rows.shelfNewSpec.post enc Try.prog Try.f4 false true false false) := by
  refine returnsInHanded_of_change (C := Try.checked) own started (by kernel_rfl) Try.func4
    (ChangeSpec.witness6 (enc := enc) (C := Try.checked) false ⟨#[], #[.int .i64 0, .int .i64 0], []⟩ 8 (by kernel_rfl) (by kernel_rfl) (by kernel_rfl) (by kernel_rfl)) ?_
  intro W base args ds gs before hval0 hW hcnd _
  have hval : ∀ (j : Nat) t v, Try.f4.params[j]? = some t → args[j]? = some v → Value.okWide Try.prog W .any base t v := hval0
  have hW' := hW
  obtain ⟨p, q, hA0, hV, rfl, hfz, hnd⟩ := hW
  have hA : DataW.TrodAll enc Try.prog W 0 (fun _ => true) true Try.f4.params.toList args.toList ds p := hA0
  rw [Try.params4] at hA hval
  obtain ⟨v0, vs0, d0, ds0, p0, q0, hargs, rfl, rfl, h0, r0⟩ := trodAll_cons hA
  obtain ⟨v1, vs1, d1, ds1, p1, q1, rfl, rfl, rfl, h1, r1⟩ := trodAll_cons r0
  obtain ⟨rfl, rfl, rfl⟩ := trodAll_nil r1
  obtain rfl : args = #[v0, v1] := by cases args; simp_all
  obtain ⟨rfl, rfl⟩ := trodVars_none hV
  obtain ⟨cls, rfl, rfl, rfl, hcls⟩ := open_int Try.underlying3 (hval 0 3 v0 rfl rfl) h0
  obtain ⟨blocks, rfl, rfl, rfl, hblocks⟩ := open_int Try.underlying3 (hval 1 3 v1 rfl rfl) h1
  clear hA0 hval0
  refine (walk cls blocks W hcls hblocks).mono fun e W' ⟨he, bel⟩ => ?_
  subst he
  exact ⟨_, rfl, _, _, _, [], _, [], hW', trodAll_mk1 (shut_bool Try.underlying4 _), (trodAll_cons_mk (shut_int Try.underlying3 hcls) (trodAll_cons_mk (shut_int Try.underlying3 hblocks) trodAll_mk0)), rfl, bel.frame _, fun h => by cases h⟩

theorem over : Rows.shelfNewRow.holds Try.pinned (OpenSpec.ofChange Rows.shelfNewSpec) :=
  OpenClaim.holds_of_wide 4 Try.f4 rfl rfl rfl rfl rfl rfl rfl ⟨rfl, rfl, rfl, rfl, rfl⟩ rfl rfl rfl rfl rfl (by kernel_rfl) Try.func4 (by kernel_rfl)
    (of_decide_eq_true (by kernel_rfl)) (by unfold Func.isWrapper; first | (rw [if_pos (by decide +kernel)]; kernel_rfl) | (rw [if_neg (by decide +kernel)]; exact ⟨rfl, rfl⟩))
    (fun os started H enc _ => lifted os started H enc)

theorem proved : Rows.ShelfNewSaid := over
#print axioms proved
end Go.Proofs.Ytijkigibcpgciaa.shelfNew
