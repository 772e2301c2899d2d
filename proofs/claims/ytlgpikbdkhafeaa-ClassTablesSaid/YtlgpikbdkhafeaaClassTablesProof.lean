/-
  almerylaw02.ClassTables returns true for every slice of ints and every int, and all memory that was there is as it was. No condition.
-/
import Derived.Test.YtlgpikbdkhafeaaRows
import Derived.WalkKit
import Derived.ProofKit
import Derived.OpenShut
import Derived.Test.YtlgpikbdkhafeaaClassAwake
import Derived.ShutString
import Derived.ChangeOld
import Derived.Below
namespace Go.Proofs.Ytlgpikbdkhafeaa.classTables
open Go.ChangeShapes Go.WideShapes Go.ChangeAt Go.RowKit
open Go.ChangeMaps (open_string shut_string)
set_option linter.unusedVariables false

theorem own : ownKnob Try.prog.godebug = none := by kernel_rfl
theorem laidOut : laidOutB Try.prog = true := by kernel_rfl

/-- WHAT THE WALK IS TOLD OF A SLICE OF INTEGERS THAT CAME IN: it is nil; or it leads to a row of 'cap' cells, the numbers 'zs' (the first 'len' are its elements, the rest its spare room), each fitting its kind. -/
def IsRow (k : IntKind) (w : World) (a : Option Addr) (len cap : Nat) (zs : List Int) : Prop :=
  (a = none ∧ len = 0 ∧ cap = 0 ∧ zs = []) ∨
  ∃ x, a = some x ∧ len ≤ cap ∧ cap ≤ maxLen ∧ zs.length = cap ∧ (∀ i, i < zs.length → w.cell? (x.add i) = some (.int k (zs.getD i 0))) ∧ ∀ n ∈ zs, (Lit.int k n).wf = true

/-! ### The walk -/
theorem walk (a0 : Option Addr) (len0 cap0 : Nat) (z0 : List Int) (a1 : Int) (w : World) (w0 : IsRow .i64 w a0 len0 cap0 z0) (w1 : (Lit.int .i64 a1).wf = true) :
    Calls Try.prog 5 #[.slice a0 len0 cap0, .int .i64 a1] w fun e w' => e = .returned (.bool true) ∧ Below w.heap.size w w' := by
  have hI : Ints w w.heap.size a0 len0 (z0.take len0) := Ints.of_row w0
  generalize z0.take len0 = xs at hI
  clear w0
  have hmax := hI.max
  obtain ⟨b1, b2⟩ := wf_i64 w1
  have HM := Lib.hid (fun v (hv : Below w.heap.size w v) => refMay_any a0 len0 cap0 xs 4096 _ _ (hI.on hv))
  rcases may_01 xs 4096 with h0 | h0
  · obtain ⟨m1, m2, m3⟩ := mayB_of h0
    rw [h0] at HM
    have hlen := hI.len
    obtain ⟨l, hl, _, _⟩ := hI.at_ (k := len0 - 1) (by omega)
    obtain ⟨l1, l2, l3, l4⟩ := okFrom_all xs 0 m3 _ _ hl
    have HL := Lib.hid (look_table (xs := xs) m3 (by rw [hlen]; exact hl) a1)
    have he : (pick xs a1 == pick xs a1) = true := by simp
    have HT := Lib.hid (fun v (hv : Below w.heap.size w v) => table_any a0 len0 cap0 xs l v (hI.on hv) hl (by omega) l3)
    have HR := Lib.hid (fun v (hv : Below w.heap.size w v) => refTable_any a0 len0 cap0 xs l v (hI.on hv) hl (by omega) l3)
    have HP := Lib.hid (fun v (hv : Below w.heap.size w v) => refPick_any a0 len0 cap0 xs a1 _ v (hI.on hv))
    generalize (l / 8).toNat + 1 = q at *
    clear h0 m3 hlen hl l1 l2 l3 l4
    go_enter Try.func5, Try.ntmps5
    go_wp2_with fail
    refine (awake02_any w).mono ?_
    rintro e v1 ⟨rfl, f1⟩
    go_wp2_with fail
    refine (HM.out _ f1).mono ?_
    rintro e v2 ⟨rfl, d, rfl⟩
    have f2 : Below w.heap.size w (v1.drewN d) := ⟨f1.os, f1.tape, f1.output, f1.size, f1.block⟩
    generalize v1.drewN d = v2 at *
    go_wp2_with fail
    refine (HT.out _ f2).mono ?_
    rintro e v3 ⟨g, hg, rfl, ht, f3⟩
    have g3 : Below w.heap.size w v3 := f2.trans (f3.mono f2.size)
    go_wp2_with fail
    refine (HR.out _ g3).mono ?_
    rintro e v4 ⟨g', cap', rfl, ht', f4⟩
    have g4 : Below w.heap.size w v4 := g3.trans (f4.mono g3.size)
    have ht4 := ht.on f4
    have H5 := Lib.hid (same_alike _ _ q q cap' _ _ _ ht4 ht')
    go_wp2_with fail
    refine H5.out.mono ?_
    rintro e v5 ⟨rfl, d', rfl⟩
    have g5 : Below w.heap.size w (v4.drewN d') := ⟨g4.os, g4.tape, g4.output, g4.size, g4.block⟩
    have ht5 : Ints (v4.drewN d') (v4.drewN d').heap.size (some ⟨g, 0, none⟩) q (table xs q) := ht4.drewN d'
    have H6 := look_any _ q q _ a1 _ ht5 b2
    rw [HL.out] at H6
    have H7 := Lib.hid H6
    clear H6 ht ht' ht4 ht5
    generalize v4.drewN d' = v5 at *
    go_wp2_with fail
    refine H7.out.mono ?_
    rintro e v6 ⟨rfl, f6⟩
    have g6 : Below w.heap.size w v6 := g5.trans (f6.below.mono g5.size)
    go_wp2_with fail
    refine (HP.out _ g6).mono ?_
    rintro e v7 ⟨rfl, rfl⟩
    go_wp2
    go_ret
    exact ⟨rfl, g6⟩
  · rw [h0] at HM
    clear h0
    go_enter Try.func5, Try.ntmps5
    go_wp2_with fail
    refine (awake02_any w).mono ?_
    rintro e v1 ⟨rfl, f1⟩
    go_wp2_with fail
    refine (HM.out _ f1).mono ?_
    rintro e v2 ⟨rfl, d, rfl⟩
    go_wp2
    go_ret
    exact ⟨rfl, ⟨f1.os, f1.tape, f1.output, f1.size, f1.block⟩⟩

/-! ### The frame of the row -/
set_option maxRecDepth 100000 in
theorem lifted (os : Os) (started : os.Started) (H : Type) (enc : TypeId × Value → H) :
    ReturnsInHanded {} Try.checked os 5 .any (Rows.classTablesSpec.pre6 enc Try.prog Try.f5 Rows.classTablesRow.domain false) (Rows.classTablesSpec.post enc Try.prog Try.f5 false true false false) := by
  refine returnsInHanded_of_change (C := Try.checked) own started (by kernel_rfl) Try.func5
    (ChangeSpec.witness6 (enc := enc) (C := Try.checked) false ⟨#[], #[.slice none 0 0, .int .i64 0], []⟩ 8 (by kernel_rfl) (by kernel_rfl) (by kernel_rfl) (by kernel_rfl)) ?_
  intro W base args ds gs before hval0 hW hcnd _
  have hval : ∀ (j : Nat) t v, Try.f5.params[j]? = some t → args[j]? = some v → Value.okWide Try.prog W .any base t v := hval0
  have hW' := hW
  obtain ⟨p, q, hA0, hV, rfl, hfz, hnd⟩ := hW
  have hA : DataW.TrodAll enc Try.prog W 0 (fun _ => true) true Try.f5.params.toList args.toList ds p := hA0
  rw [Try.params5] at hA hval
  obtain ⟨v0, vs0, d0, ds0, p0, q0, hargs, rfl, rfl, h0, r0⟩ := trodAll_cons hA
  obtain ⟨v1, vs1, d1, ds1, p1, q1, rfl, rfl, rfl, h1, r1⟩ := trodAll_cons r0
  obtain ⟨rfl, rfl, rfl⟩ := trodAll_nil r1
  obtain rfl : args = #[v0, v1] := by cases args; simp_all
  obtain ⟨rfl, rfl⟩ := trodVars_none hV
  obtain ⟨a0, len0, cap0, rfl⟩ := okWide_slice Try.underlying22 (hval 0 22 v0 rfl rfl)
  have k0 := h0
  have lt0 : ∀ x ∈ p0, x.block < W.heap.size := by obtain ⟨m, hm⟩ := k0; exact DataW.trod_lt m _ _ _ hm
  obtain ⟨z0, w0⟩ : ∃ zs, IsRow .i64 W a0 len0 cap0 zs := by
    obtain ⟨fuel, hf⟩ := h0
    rcases open_ints Try.underlying22 Try.underlying3 (by kernel_rfl) hf with ⟨hcs, _⟩ | ⟨x, l, c, zs, hcs, _, hl, hm, hz, _, hcell, hwz⟩
    · simp [Value.cells] at hcs
      obtain ⟨rfl, rfl, rfl⟩ := hcs
      exact ⟨[], .inl ⟨rfl, rfl, rfl, rfl⟩⟩
    · simp [Value.cells] at hcs
      obtain ⟨rfl, rfl, rfl⟩ := hcs
      exact ⟨zs, .inr ⟨_, rfl, hl, hm, by simpa using hz, hcell, hwz⟩⟩
  obtain ⟨a1, rfl, rfl, rfl, w1⟩ := open_int Try.underlying3 (hval 1 3 v1 rfl rfl) h1
  clear hA0 hval0
  refine (walk a0 len0 cap0 z0 a1 W w0 w1).mono fun e W' ⟨he, bel⟩ => ?_
  subst he
  exact ⟨_, rfl, _, _, _, [], _, [], hW', trodAll_mk1 (shut_bool Try.underlying4 _), (trodAll_cons_mk (Below.trod laidOut (by kernel_rfl) (of_decide_eq_true (by kernel_rfl)) k0 bel lt0) (trodAll_cons_mk (shut_int Try.underlying3 w1) trodAll_mk0)), rfl, bel.frame _, fun h => by cases h⟩

theorem over : Rows.classTablesRow.holds Try.pinned (OpenSpec.ofChange Rows.classTablesSpec) :=
  OpenClaim.holds_of_wide 5 Try.f5 rfl rfl rfl rfl rfl rfl rfl ⟨rfl, rfl, rfl, rfl, rfl⟩ rfl rfl rfl rfl rfl (by kernel_rfl) Try.func5 (by kernel_rfl)
    (of_decide_eq_true (by kernel_rfl)) (by unfold Func.isWrapper; first | (rw [if_pos (by decide +kernel)]; kernel_rfl) | (rw [if_neg (by decide +kernel)]; exact ⟨rfl, rfl⟩))
    (fun os started H enc _ => lifted os started H enc)

theorem proved : Rows.ClassTablesSaid := over
#print axioms proved
end Go.Proofs.Ytlgpikbdkhafeaa.classTables
