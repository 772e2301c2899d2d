/-
  ShelfPages: no more pages than the blocks need, but one for each open page. No condition.
-/
import Derived.Test.YtijkigibcpgciaaRows
import Derived.WalkKit
import Derived.ProofKit
import Derived.OpenShut
import Derived.Test.YtijkigibcpgciaaShAwake
import Derived.Test.YtijkigibcpgciaaShTight
import Derived.ShutString
import Derived.ChangeOld
import Derived.Below
namespace Go.Proofs.Ytijkigibcpgciaa.shelfPages
open Go.ChangeShapes Go.WideShapes Go.ChangeAt Go.RowKit
open Go.ChangeMaps (open_string shut_string)
set_option linter.unusedVariables false

theorem own : ownKnob Try.prog.godebug = none := by kernel_rfl
theorem laidOut : laidOutB Try.prog = true := by kernel_rfl

/-- The numbers behind each act, as the law asks for them. -/
structure Nums (B P o U z : Nat) : Prop where
  p : P ≤ 9
  oP : o ≤ P
  u : U ≤ 36
  z9 : z ≤ 40
  d : ((U : Int) + (B : Int) - 1).tdiv (B : Int) = (z : Int)
  most : P ≤ z + (o - 1)
  least : z ≤ P
  open_ : (((o : Int) == 0) != ((P : Int) * (B : Int) == (U : Int))) = false
  each : P ≤ U
  pb : P * B ≤ 36
theorem nums_of {K B : Nat} {c : Int} {s : Sh.Shl} (h : Sh.Sw K c B s) (hu : Sh.Uw s) (hK : K ≤ 9) (hB : 1 ≤ B) (hB4 : B ≤ 4) : Nums B s.ps.length s.op.length (Sh.usedS s.ps) ((Sh.usedS s.ps + B - 1) / B) := by
  obtain ⟨⟨t1, t2⟩, t3, t4, t5⟩ := Sh.tight h hu hB hB4
  have h1 := h.few
  have h2 := Nat.le_trans (Sh.usedS_le h.len) (Nat.mul_le_mul (Nat.le_trans h1 hK) hB4)
  have h3 := Nat.mul_le_mul (Nat.le_trans h1 hK) hB4
  refine ⟨by omega, t5, h2, by omega, ?_, t2, t1, ?_, t4, h3⟩
  · rw [show (Sh.usedS s.ps : Int) + (B : Int) - 1 = ((Sh.usedS s.ps + B - 1 : Nat) : Int) by omega, Int.tdiv_eq_ediv_of_nonneg (by omega)]
    exact (Int.natCast_ediv _ _).symm
  · rw [← Int.natCast_mul]
    by_cases q : s.op.length = 0
    · rw [q, t3.1 q]
      simp
    · have q2 : ¬ s.ps.length * B = Sh.usedS s.ps := fun e => q (t3.2 e)
      have e1 : (((s.op.length : Nat) : Int) == 0) = false := by rw [beq_eq_false_iff_ne]; omega
      have e2 : (((s.ps.length * B : Nat) : Int) == (Sh.usedS s.ps : Int)) = false := by rw [beq_eq_false_iff_ne]; intro e; exact q2 (Int.ofNat_inj.1 e)
      rw [e1, e2]
      rfl

/-! ### The walk -/
set_option maxRecDepth 100000 in
set_option maxHeartbeats 4000000 in
theorem walk (n : Int) (al : Option Addr) (ll cl : Nat) (l : List Ac) (w : World) (hn : (Lit.int .u8 n).wf = true) (hl : Acts w w.heap.size al ll l) (hcl : ll ≤ cl) :
    Calls Try.prog 5 #[.int .u8 n, .slice al ll cl] w fun e w' => e = .returned (.bool true) ∧ Below w.heap.size w w' := by
  have hmax := hl.max
  have A := Lib.hid (Sh.awake13_any w)
  have n12 := wfu8 hn
  obtain ⟨B, hB⟩ : ∃ B : Nat, 1 + n % 4 = (B : Int) := ⟨(1 + n % 4).toNat, by omega⟩
  have hB1 : 1 ≤ B := by omega
  have hB2 : B ≤ 4 := by omega
  have hm : n.tmod 4 = (B : Int) - 1 := by rw [Int.tmod_eq_emod_of_nonneg (by omega)]; omega
  have hm2 : n % 4 = (B : Int) - 1 := by omega
  have wB : IntKind.i64.wrap (1 + ((B : Int) - 1)) = (B : Int) := by rw [IntWalk.i64_in _ (by omega)]; omega
  have wn : IntKind.i64.wrap n = n := IntWalk.i64_in _ (by omega)
  have HN : Hid (∀ w, Calls Try.prog 10 #[.int .i64 9] w fun e w' => ∃ p a, e = .returned (.tuple #[.pointer (some ⟨p, 0, none⟩), .int .i64 0]) ∧ Pl.Pm w' p a 9 (Pl.freed 9) (Pl.turns 9) ∧ Below w.heap.size w w' ∧ w.heap.size ≤ p ∧ w.heap.size ≤ a) := Lib.hid fun w => Pl.new_ok 9 w (by omega) (by omega)
  have HS : Hid (∀ v w1 pp pa, Pl.Pm w1 pp pa 9 (Pl.freed 9) (Pl.turns 9) → Below v.heap.size v w1 → v.heap.size ≤ pp → v.heap.size ≤ pa → Calls Try.prog 11 #[.pointer (some ⟨pp, 0, none⟩), .int .i64 3, .int .i64 (B : Int)] w1 fun e w2 => ∃ x : Sh.Fx, e = .returned (.tuple #[.pointer (some ⟨x.s, 0, none⟩), .int .i64 0]) ∧ (x.pp = pp ∧ x.K = 9 ∧ x.B = B ∧ x.c = 3) ∧ Sh.Hx v x ⟨Pl.freed 9, Pl.turns 9, [], []⟩ w2) := Lib.hid fun v w1 pp pa r1 b1 l1 l2 => (Sh.shNew_ok r1 3 (by omega) (by omega) B (by omega) (by omega)).mono fun e w2 h => Sh.Hx.new b1 l1 l2 h
  clear hB hn n12
  go_enter Try.func5, Try.ntmps5
  go_wp2_with fail
  refine A.out.mono ?_
  rintro e w0 ⟨rfl, h0⟩
  have H0 := Lib.hid h0
  clear h0
  by_cases hll : 30 < ll
  · have d1 : decide ((30 : Int) < (ll : Int)) = true := by simp; omega
    go_wp2
    go_ret
    exact ⟨rfl, H0.out⟩
  have d1 : decide ((30 : Int) < (ll : Int)) = false := by simp; omega
  go_wp2_with fail
  refine (HN.out w0).mono ?_
  rintro e w1 ⟨pp, pa, rfl, r1, b1, l1, l2⟩
  have HS1 := Lib.hid (HS.out w w1 pp pa r1 (belowT H0.out b1) (Nat.le_trans H0.out.size l1) (Nat.le_trans H0.out.size l2))
  clear b1 r1 l1 l2 HS HN H0 A
  go_wp2_with fail
  refine HS1.out.mono ?_
  rintro e w2 ⟨x, rfl, ⟨hpp, hK, hBB, hcc⟩, h2⟩
  have H2 := Lib.hid h2
  have FX := Lib.hid (show x.B = B ∧ x.c = 3 ∧ x.K = 9 from ⟨hBB, hcc, hK⟩)
  have EP := Lib.hid hpp
  have HB12 := Lib.hid (show 1 ≤ B ∧ B ≤ 4 from ⟨hB1, hB2⟩)
  have T2 := Lib.hid (Sh.Tw.new 9)
  clear h2 hK hBB hcc hpp HS1 hm hm2 wB wn
  go_wp2
  go_loopw [11] (fun i wr => ∃ (k : Nat) (s : Sh.Shl), k ≤ ll ∧ i = .int .i64 k ∧ Hid (Sh.Hx w x s wr) ∧ Hid (Sh.Tw 9 s)) (fun i _ => ll - (intOf i).toNat)
  case atStart => exact ⟨0, _, by omega, rfl, H2, T2⟩
  case round =>
    obtain ⟨k, s, hk, rfl, HX, HT⟩ := hrel
    clear H2 T2
    by_cases hlt : k < ll
    · have dk : decide ((k : Int) < (ll : Int)) = true := by simp; omega
      have HBW : Hid (Below w.heap.size w wr) := Lib.hid (by obtain ⟨_, _, _, _, b⟩ := HX.out; exact b)
      have U1 := Lib.hid (hl.below HBW.out)
      obtain ⟨b0, o0, rfl, hb0, hc0⟩ := U1.out.head (by omega)
      obtain ⟨u, hu, hfit⟩ := U1.out.at_ hlt
      have k0 : wr.cell? ⟨b0, o0 + k * 4, none⟩ = some (.int .u8 u.kind) := hc0 k u hu 0 _ rfl
      have k1 : wr.cell? ⟨b0, o0 + k * 4 + 1, none⟩ = some (.int .i64 u.page) := hc0 k u hu 1 _ rfl
      have k2 : wr.cell? ⟨b0, o0 + k * 4 + 2, none⟩ = some (.int .i64 u.at_) := hc0 k u hu 2 _ rfl
      have k3 : wr.cell? ⟨b0, o0 + k * 4 + 3, none⟩ = some (.int .i64 u.own) := hc0 k u hu 3 _ rfl
      obtain ⟨kind, page, at_, own⟩ := u
      simp only at k0 k1 k2 k3
      have HC := Lib.hid (HX.out.act kind page at_ own hfit)
      have HT' : Hid (Sh.Tw 9 (Sh.actS x.c x.B s ⟨kind, page, at_, own⟩).1) := Lib.hid (by
        obtain ⟨_, _, q, _, _⟩ := HX.out
        exact HT.out.act q.sw.nod _)
      clear hc0 hu hb0 U1 hfit HBW HX HT
      generalize Sh.actS x.c x.B s ⟨kind, page, at_, own⟩ = r at HC HT'
      obtain ⟨t, y1, y2, y3⟩ := r
      simp only at HC HT'
      go_wp2_with fail
      refine HC.out.mono ?_
      rintro e w4 ⟨rfl, h4⟩
      have N4 : Hid (Nums B t.ps.length t.op.length (Sh.usedS t.ps) ((Sh.usedS t.ps + B - 1) / B)) := Lib.hid (by
        obtain ⟨_, _, q, _, _⟩ := h4
        have fx := FX.out
        have e1 := q.sw
        rw [fx.1, fx.2.1] at e1
        exact nums_of e1 q.uw (by omega) HB12.out.1 HB12.out.2)
      have L1 : Hid (∀ v, Below w4.heap.size w4 v → Calls Try.prog 21 #[.pointer (some ⟨x.s, 0, none⟩)] v (R1 (t.ps.length : Int) v)) := Lib.hid fun v hv => (h4.grow hv).pages
      have L2 : Hid (∀ v, Below w4.heap.size w4 v → Calls Try.prog 19 #[.pointer (some ⟨x.s, 0, none⟩)] v (R1 (t.op.length : Int) v)) := Lib.hid fun v hv => (h4.grow hv).opens
      have L3 : Hid (∀ v, Below w4.heap.size w4 v → Calls Try.prog 20 #[.pointer (some ⟨x.s, 0, none⟩)] v (R1 (Sh.usedS t.ps : Int) v)) := Lib.hid fun v hv => (h4.grow hv).used
      have L4 : Hid (∀ v, Below w4.heap.size w4 v → Calls Try.prog 22 #[.pointer (some ⟨pp, 0, none⟩)] v (RQ (t.ps.length : Int) v)) := Lib.hid fun v hv => by
        have := (h4.grow hv).held
        have ht := HT'.out
        unfold Sh.Tw at ht
        rw [EP.out, FX.out.2.2, show ((9 : Nat) : Int) - (t.fl.length : Int) = (t.ps.length : Int) by omega] at this
        exact this
      have H4 := Lib.hid h4
      clear h4 HC k0 k1 k2 k3
      generalize (Sh.usedS t.ps + B - 1) / B = z at N4
      generalize t.ps.length = P at N4 L1 L4
      generalize t.op.length = o at N4 L2
      generalize Sh.usedS t.ps = U at N4 L3
      obtain ⟨p9, oP, u36, z9, hd, hmo, hle, hop, hea, hpb⟩ := N4.out
      have hpb' : (P : Int) * (B : Int) ≤ 36 := by rw [← Int.natCast_mul]; omega
      have hpb0 : 0 ≤ (P : Int) * (B : Int) := by rw [← Int.natCast_mul]; omega
      have w1 : IntKind.i64.wrap ((U : Int) + (B : Int)) = (U : Int) + (B : Int) := IntWalk.i64_in _ (by omega)
      have w2 : IntKind.i64.wrap ((U : Int) + (B : Int) - 1) = (U : Int) + (B : Int) - 1 := IntWalk.i64_in _ (by omega)
      have w3 : IntKind.i64.wrap (z : Int) = (z : Int) := IntWalk.i64_in _ (by omega)
      have w5 : IntKind.i64.wrap ((o : Int) - 1) = (o : Int) - 1 := IntWalk.i64_in _ (by omega)
      have w6 : IntKind.i64.wrap ((P : Int) * (B : Int)) = (P : Int) * (B : Int) := IntWalk.i64_in _ (by omega)
      have b0' : ((B : Int) == 0) = false := by simp; omega
      have c2 : decide ((P : Int) < (z : Int)) = false := by simp; omega
      have c3 : ((P : Int) != (P : Int)) = false := by simp
      have hop2 : ((o : Int) == 0) = ((P : Int) * (B : Int) == (U : Int)) := by simpa using hop
      have n1 : ¬ P < z := by omega
      have n2 : ¬ U < P := by omega
      have c4 : decide ((U : Int) < (P : Int)) = false := by simp; omega
      rcases (by omega : o = 0 ∨ 1 ≤ o) with ho | ho
      · have c0 : decide ((o : Int) - 1 < 0) = true := by simp; omega
        have c0' : (o : Int) - 1 < 0 := by omega
        have c1 : decide ((z : Int) < (P : Int)) = false := by simp; omega
        have n3 : P ≤ z := by omega
        have w7 : IntKind.i64.wrap ((z : Int) + 0) = (z : Int) := by rw [Int.add_zero]; exact w3
        clear hmo hpb oP u36 z9 p9 hpb' hpb0 N4 ho hop
        go_wp2_with fail
        refine (L3.out _ (Below.refl _ _)).mono ?_
        rintro e v ⟨rfl, rfl⟩
        go_wp2_with fail
        refine (L1.out _ (Below.refl _ _)).mono ?_
        rintro e v ⟨rfl, rfl⟩
        go_wp2_with fail
        refine (L2.out _ (Below.refl _ _)).mono ?_
        rintro e v ⟨rfl, rfl⟩
        go_wp2_with fail
        refine (L1.out _ (Below.refl _ _)).mono ?_
        rintro e v ⟨rfl, rfl⟩
        go_wp2_with fail
        refine (L2.out _ (Below.refl _ _)).mono ?_
        rintro e v ⟨rfl, rfl⟩
        go_wp2_with fail
        refine (L1.out _ (Below.refl _ _)).mono ?_
        rintro e v ⟨rfl, rfl⟩
        go_wp2_with fail
        refine (L3.out _ (Below.refl _ _)).mono ?_
        rintro e v ⟨rfl, rfl⟩
        go_wp2_with fail
        refine (L4.out _ (Below.refl _ _)).mono ?_
        rintro e v ⟨rfl, d, rfl⟩
        go_wp2_with fail
        refine (L1.out _ (belowN (Below.refl _ _) d)).mono ?_
        rintro e v ⟨rfl, rfl⟩
        go_wp2_with fail
        refine (L3.out _ (belowN (Below.refl _ _) d)).mono ?_
        rintro e v ⟨rfl, rfl⟩
        go_wp2_with fail
        refine (L1.out _ (belowN (Below.refl _ _) d)).mono ?_
        rintro e v ⟨rfl, rfl⟩
        have HE := Lib.hid (H4.out.grow (belowN (Below.refl _ _) d))
        go_wp2
        go_roundw
        case rel => exact ⟨k + 1, t, by omega, by go_num, HE, HT'⟩
        case measure => simp [intOf]; omega
      · have c0 : decide ((o : Int) - 1 < 0) = false := by simp; omega
        have c0' : ¬ (o : Int) - 1 < 0 := by omega
        have c1 : decide ((z : Int) + ((o : Int) - 1) < (P : Int)) = false := by simp; omega
        have w7 : IntKind.i64.wrap ((z : Int) + ((o : Int) - 1)) = (z : Int) + ((o : Int) - 1) := IntWalk.i64_in _ (by omega)
        clear hmo hpb oP u36 z9 p9 hpb' hpb0 N4 ho hop
        go_wp2_with fail
        refine (L3.out _ (Below.refl _ _)).mono ?_
        rintro e v ⟨rfl, rfl⟩
        go_wp2_with fail
        refine (L1.out _ (Below.refl _ _)).mono ?_
        rintro e v ⟨rfl, rfl⟩
        go_wp2_with fail
        refine (L2.out _ (Below.refl _ _)).mono ?_
        rintro e v ⟨rfl, rfl⟩
        go_wp2_with fail
        refine (L1.out _ (Below.refl _ _)).mono ?_
        rintro e v ⟨rfl, rfl⟩
        go_wp2_with fail
        refine (L2.out _ (Below.refl _ _)).mono ?_
        rintro e v ⟨rfl, rfl⟩
        go_wp2_with fail
        refine (L1.out _ (Below.refl _ _)).mono ?_
        rintro e v ⟨rfl, rfl⟩
        go_wp2_with fail
        refine (L3.out _ (Below.refl _ _)).mono ?_
        rintro e v ⟨rfl, rfl⟩
        go_wp2_with fail
        refine (L4.out _ (Below.refl _ _)).mono ?_
        rintro e v ⟨rfl, d, rfl⟩
        go_wp2_with fail
        refine (L1.out _ (belowN (Below.refl _ _) d)).mono ?_
        rintro e v ⟨rfl, rfl⟩
        go_wp2_with fail
        refine (L3.out _ (belowN (Below.refl _ _) d)).mono ?_
        rintro e v ⟨rfl, rfl⟩
        go_wp2_with fail
        refine (L1.out _ (belowN (Below.refl _ _) d)).mono ?_
        rintro e v ⟨rfl, rfl⟩
        have HE := Lib.hid (H4.out.grow (belowN (Below.refl _ _) d))
        go_wp2
        go_roundw
        case rel => exact ⟨k + 1, t, by omega, by go_num, HE, HT'⟩
        case measure => simp [intOf]; omega
    · have dk : decide ((k : Int) < (ll : Int)) = false := by simp; omega
      go_wp2
      go_ret
      obtain ⟨_, _, _, _, b⟩ := HX.out
      exact ⟨rfl, b⟩

/-! ### The frame of the row -/
set_option maxRecDepth 100000 in
theorem lifted (os : Os) (started : os.Started) (H : Type) (enc : TypeId × Value → H) :
    ReturnsInHanded {} Try.checked os 5 .any (Rows.shelfPagesSpec.pre6 enc Try.prog Try.f5 Rows.shelfPagesRow.domain false) (Rows.shelfPagesSpec.post enc Try.prog Try.f5 false true false false) := by
  refine returnsInHanded_of_change (C := Try.checked) own started (by kernel_rfl) Try.func5
    (ChangeSpec.witness6 (enc := enc) (C := Try.checked) false ⟨#[], #[.int .u8 0, .slice none 0 0], []⟩ 8 (by kernel_rfl) (by kernel_rfl) (by kernel_rfl) (by kernel_rfl)) ?_
  intro W base args ds gs before hval0 hW hcnd _
  have hval : ∀ (j : Nat) t v, Try.f5.params[j]? = some t → args[j]? = some v → Value.okWide Try.prog W .any base t v := hval0
  have hW' := hW
  obtain ⟨p, q, hA0, hV, rfl, hfz, hnd⟩ := hW
  have hA : DataW.TrodAll enc Try.prog W 0 (fun _ => true) true Try.f5.params.toList args.toList ds p := hA0
  rw [Try.params5] at hA hval
  obtain ⟨v0, vs0, d0, ds0, p0, q0, hargs, rfl, rfl, h0, r0⟩ := trodAll_cons hA
  obtain ⟨v1, vs1, d1, ds1, p1, q1, rfl, rfl, rfl, h1, r1⟩ := trodAll_cons r0
  obtain ⟨rfl, rfl, rfl⟩ := trodAll_nil r1
  obtain rfl : args = #[v0, v1] := by cases args; simp_all
  obtain ⟨rfl, rfl⟩ := trodVars_none hV
  obtain ⟨n, rfl, rfl, rfl, hn⟩ := open_int Try.underlying5 (hval 0 5 v0 rfl rfl) h0
  have k1 := h1
  have lt1 : ∀ x ∈ p1, x.block < W.heap.size := by obtain ⟨m, hm⟩ := k1; exact DataW.trod_lt m _ _ _ hm
  obtain ⟨al, ll, cl, rfl⟩ := okWide_slice Try.underlying22 (hval 1 22 v1 rfl rfl)
  obtain ⟨l, hcl, hl⟩ : ∃ xs, ll ≤ cl ∧ Acts W W.heap.size al ll xs := by
    obtain ⟨fuel, hf⟩ := h1
    obtain ⟨a, l, c, xs, e, hl, hi⟩ := acts_field (by simpa [Value.cells] using hf)
    injection e with e1 e2 e3
    subst e1 e2 e3
    exact ⟨xs, hl, hi⟩
  clear hA0 hval0
  refine (walk n al ll cl l W hn hl hcl).mono fun e W' ⟨he, bel⟩ => ?_
  subst he
  exact ⟨_, rfl, _, _, _, [], _, [], hW', trodAll_mk1 (shut_bool Try.underlying4 _), (trodAll_cons_mk (shut_int Try.underlying5 hn) (trodAll_cons_mk (Below.trod laidOut (by kernel_rfl) (of_decide_eq_true (by kernel_rfl)) k1 bel lt1) trodAll_mk0)), rfl, bel.frame _, fun h => by cases h⟩

theorem over : Rows.shelfPagesRow.holds Try.pinned (OpenSpec.ofChange Rows.shelfPagesSpec) :=
  OpenClaim.holds_of_wide 5 Try.f5 rfl rfl rfl rfl rfl rfl rfl ⟨rfl, rfl, rfl, rfl, rfl⟩ rfl rfl rfl rfl rfl (by kernel_rfl) Try.func5 (by kernel_rfl)
    (of_decide_eq_true (by kernel_rfl)) (by unfold Func.isWrapper; first | (rw [if_pos (by decide +kernel)]; kernel_rfl) | (rw [if_neg (by decide +kernel)]; exact ⟨rfl, rfl⟩))
    (fun os started H enc _ => lifted os started H enc)

theorem proved : Rows.ShelfPagesSaid := over
#print axioms proved
end Go.Proofs.Ytijkigibcpgciaa.shelfPages
