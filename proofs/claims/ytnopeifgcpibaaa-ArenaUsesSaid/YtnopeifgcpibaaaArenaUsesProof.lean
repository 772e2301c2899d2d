/-
  ArenaUses: whatever number and whatever uses come in, the law returns true, and the input reads behind the call as it did.
-/
import Derived.Test.YtnopeifgcpibaaaRows
import Derived.WalkKit
import Derived.ProofKit
import Derived.OpenShut
import Derived.Test.YtnopeifgcpibaaaArenaAwake
import Derived.Test.YtnopeifgcpibaaaArenaSt
import Derived.Test.YtnopeifgcpibaaaArenaFew
import Derived.Test.YtnopeifgcpibaaaQuietImp
import Derived.Test.YtnopeifgcpibaaaRegImp
import Derived.ShutString
import Derived.ChangeOld
import Derived.Below
namespace Go.Proofs.Ytnopeifgcpibaaa.arenaUses
open Go.ChangeShapes Go.WideShapes Go.ChangeAt Go.RowKit
open Go.ChangeMaps (open_string shut_string)
set_option linter.unusedVariables false

theorem own : ownKnob Try.prog.godebug = none := by kernel_rfl
theorem laidOut : laidOutB Try.prog = true := by kernel_rfl

/-! ### The walk -/
set_option maxRecDepth 20000 in
set_option maxHeartbeats 2000000 in
theorem walk (n : Int) (al : Option Addr) (ll cl : Nat) (l : List Us) (w : World) (hn : (Lit.int .u8 n).wf = true) (hl : Uses w w.heap.size al ll l) (hcl : ll ≤ cl) :
    Calls Try.prog 3 #[.int .u8 n, .slice al ll cl] w fun e w' => e = .returned (.bool true) ∧ Below w.heap.size w w' := by
  have hn2 := wf_u8 hn
  have hmax := hl.max
  clear hn
  go_enter Try.func3, Try.ntmps3
  go_wp2_with fail
  refine (awake06_any w).mono ?_
  rintro e w0 ⟨rfl, h0⟩
  have H0 := Lib.hid h0
  clear h0
  go_wp2_with fail
  refine (few_any al ll cl l w.heap.size w0 (hl.below H0.out) hcl).mono ?_
  rintro e w00 ⟨f, rfl, rfl, hf⟩
  cases f with
  | false =>
    go_wp2
    go_ret
    exact ⟨rfl, H0.out⟩
  | true =>
    have hll : ll ≤ 20 := hf rfl
    clear hf
    obtain ⟨r, hr⟩ : ∃ r : Nat, n % 4 = (r : Int) := ⟨(n % 4).toNat, by omega⟩
    have hr2 : n.tmod 4 = (r : Int) := by rw [Int.tmod_eq_emod_of_nonneg (by omega)]; exact hr
    obtain ⟨P, hP⟩ : ∃ P : Nat, P = 1 + r := ⟨_, rfl⟩
    have hPw : IntKind.i64.wrap (1 + (r : Int)) = (P : Int) := by rw [IntWalk.i64_in _ (by omega)]; omega
    have hmay : may (P : Int) ((64 : Nat) : Int) := ⟨by omega, by omega, by omega, by omega, by omega⟩
    have hP4 : P ≤ 4 := by omega
    have HM := Lib.hid hmay
    have HP4 := Lib.hid hP4
    clear hP hmay hP4
    go_wp2_with fail
    refine (new_any w0).mono ?_
    rintro e w1 ⟨rfl, m1, b1, s1⟩
    have B1 := Lib.hid (belowT H0.out b1)
    have S1 := Lib.hid s1
    have HG := Lib.hid H0.out.size
    generalize w0.heap.size = g at m1 S1 HG ⊢
    have M1 := Lib.hid m1
    clear m1 b1 s1
    go_wp2_with fail
    refine (arenaNew_ok P 64 (some g) 0 0 w1 HM.out (Mo.one M1.out) (fun q e => by cases e; exact S1.out)).mono ?_
    rintro e w2 ⟨p, q, rfl, a2, b2, hp, hq⟩
    have B2 := Lib.hid (belowT B1.out b2)
    have A2 := Lib.hid a2
    have HPP := Lib.hid (Nat.le_trans B1.out.size hp)
    have HQ := Lib.hid (Nat.le_trans B1.out.size hq)
    clear a2 b2 hp hq
    go_wp2_with fail
    refine (refNew_ok P 64 w2 HM.out).mono ?_
    rintro e w3 ⟨h, rfl, r3, b3, hh⟩
    obtain ⟨N, hN⟩ : ∃ N, N = P * 64 := ⟨_, rfl⟩
    have HN : Hid (64 ≤ N ∧ N ≤ 256) := Lib.hid (by have := HP4.out; have := HM.out.1; omega)
    rw [← hN] at r3 A2 ⊢
    have B3 := Lib.hid (belowT B2.out b3)
    obtain ⟨X, hX⟩ : ∃ X, X = w3.heap.size := ⟨_, rfl⟩
    have A3 := Lib.hid (A2.out.below b3)
    have F : Hid (X ≠ p ∧ X ≠ q ∧ X ≠ g ∧ h ≠ q ∧ h ≠ g ∧ h ≠ X ∧ w.heap.size ≤ X) := Lib.hid (by
      have t1 := A2.out.size
      have t2 := A2.out.row.size
      have t3 := (A2.out.mo g rfl).size
      have t4 := b3.size
      have t5 := r3.size
      have t6 := B2.out.size
      refine ⟨?_, ?_, ?_, ?_, ?_, ?_, ?_⟩ <;> omega)
    have St0 : Hid (St w p q g X N 0 (List.replicate N 0) 0 h 0 N (w3.alloc (.cells #[.slice (some ⟨h, 0, none⟩) N N, .int .i64 0] 33))) := Lib.hid
      ⟨belowT B3.out (below1 w3 _), A3.out.below (below1 w3 _), by simp, by rw [hX]; exact RB.new w3 _ _ _ _, Nat.le_refl _, (r3.below (below1 w3 _)).all (by simp), F.out.2.2.2.1, F.out.2.2.2.2.1, F.out.2.2.2.2.2.1, by omega, by omega⟩
    have HXX := Lib.hid hX.symm
    clear r3 b3 hh A2 A3 hN hX M1 B3
    go_wp2
    rw [HXX.out]
    generalize w3.alloc (.cells #[.slice (some ⟨h, 0, none⟩) N N, .int .i64 0] 33) = w30 at St0 ⊢
    go_loopw [11] (fun i wr => ∃ (k : Nat) (xs : List Int) (s : Int) (b o c : Nat), k ≤ ll ∧ i = .int .i64 k ∧ St w p q g X N k xs s b o c wr) (fun i _ => ll - (intOf i).toNat)
    case atStart => exact ⟨0, _, _, _, _, _, by omega, rfl, St0.out⟩
    case round =>
      obtain ⟨k, xs, s, b, o, c, hk, rfl, hs⟩ := hrel
      have HS := Lib.hid hs
      clear hs St0
      by_cases hlt : k < ll
      · have dk : decide ((k : Int) < (ll : Int)) = true := by simp; omega
        have U1 := Lib.hid (hl.below HS.out.below)
        obtain ⟨b0, o0, rfl, hb0, hc0⟩ := U1.out.head (by omega)
        have hu : l[k]? = some (l[k]'(by rw [hl.len]; exact hlt)) := List.getElem?_eq_getElem _
        generalize l[k]'(by rw [hl.len]; exact hlt) = u at hu
        have UK := Lib.hid (U1.out.ok k u hu)
        have y0 : wr.cell? ⟨b0, o0 + k * 6, none⟩ = some (.int .u8 u.kind) := hc0 k u hu 0 _ rfl
        have y1 : wr.cell? ⟨b0, o0 + k * 6 + 1, none⟩ = some (.int .i64 u.at_) := hc0 k u hu 1 _ rfl
        have y2 : wr.cell? ⟨b0, o0 + k * 6 + 2, none⟩ = some (.int .i64 u.from_) := hc0 k u hu 2 _ rfl
        have y3 : wr.cell? ⟨b0, o0 + k * 6 + 3, none⟩ = some (.int .i64 u.n) := hc0 k u hu 3 _ rfl
        have y4 : wr.cell? ⟨b0, o0 + k * 6 + 4, none⟩ = some (.int .u64 u.v) := hc0 k u hu 4 _ rfl
        have y5 : wr.cell? ⟨b0, o0 + k * 6 + 5, none⟩ = some (.slice u.ba u.bn u.bc) := hc0 k u hu 5 _ rfl
        have HD := Lib.hid (do_any HS.out.ar u w.heap.size UK.out HS.out.below.size (fun _ e => by cases e; exact HG.out))
        clear hc0 hu
        go_wp2_with fail
        refine HD.out.mono ?_
        rintro e w4 ⟨a4, n4, c4, rfl, t4, r4, b4, f4⟩
        have C4 := Lib.hid (Ar.mine b4 HS.out.below.size HQ.out (fun _ e => by cases e; exact HG.out))
        have z0 := (C4.out.cell (p := ⟨b0, o0 + k * 6, none⟩) hb0).trans y0
        have z1 := (C4.out.cell (p := ⟨b0, o0 + k * 6 + 1, none⟩) hb0).trans y1
        have z2 := (C4.out.cell (p := ⟨b0, o0 + k * 6 + 2, none⟩) hb0).trans y2
        have z3 := (C4.out.cell (p := ⟨b0, o0 + k * 6 + 3, none⟩) hb0).trans y3
        have z4 := (C4.out.cell (p := ⟨b0, o0 + k * 6 + 4, none⟩) hb0).trans y4
        have z5 := (C4.out.cell (p := ⟨b0, o0 + k * 6 + 5, none⟩) hb0).trans y5
        have R4 := Lib.hid (HS.out.rb.but b4 (fun e => by have := F.out; rcases e with e | e; exact this.2.1 e; injection e with e; exact this.2.2.1 e.symm))
        have Y4 := Lib.hid ((HS.out.bytes.butAt b4 (Nat.le_refl _) (fun e => by rcases e with e | e; exact HS.out.bq e; injection e with e; exact HS.out.bg e.symm)).more b4.size)
        have HC := Lib.hid (fun v (hv : Below w4.heap.size w4 v) => refDo_any b o N c s xs v (Y4.out.on hv) HS.out.cap (by have := HN.out; omega) (by have := HN.out; omega) HS.out.s0 (by have := HS.out.s1; omega) u (((UK.out.below C4.out).below (hv.mono (Nat.le_trans HS.out.below.size C4.out.size))).more (Nat.le_trans HS.out.below.size (Nat.le_trans C4.out.size hv.size))))
        have HBL := Lib.hid (Y4.out.block_lt (by have := HN.out; omega))
        have HO := Lib.hid (useOut_cases u xs UK.out.bytes.len)
        have HLN := Lib.hid ((useOut_len u xs UK.out.bytes.len).trans HS.out.len)
        generalize useOut u xs = out at HC HO HLN r4 t4 ⊢
        have T4 := Lib.hid t4
        have AR4 := Lib.hid r4
        have B4 := Lib.hid b4
        have F4 := Lib.hid f4
        obtain ⟨p0, p1, p2, p3⟩ := R4.out
        clear t4 r4 b4 f4 y0 y1 y2 y3 y4 y5 HD
        go_wp2_with fail
        go_region_held3 (fun w' => w'.cell? ⟨X, 0, none⟩ = some (.slice (some ⟨b, o, none⟩) N c) ∧ w'.cell? ⟨X, 1, none⟩ = some (.int .i64 s) ∧ w'.cell? ⟨b0, o0 + k * 6, none⟩ = some (.int .u8 u.kind) ∧ w'.cell? ⟨b0, o0 + k * 6 + 1, none⟩ = some (.int .i64 u.at_) ∧
            w'.cell? ⟨b0, o0 + k * 6 + 2, none⟩ = some (.int .i64 u.from_) ∧ w'.cell? ⟨b0, o0 + k * 6 + 3, none⟩ = some (.int .i64 u.n) ∧ w'.cell? ⟨b0, o0 + k * 6 + 4, none⟩ = some (.int .u64 u.v) ∧ w'.cell? ⟨b0, o0 + k * 6 + 5, none⟩ = some (.slice u.ba u.bn u.bc))
          (first | exact ⟨p0, p1, z0, z1, z2, z3, z4, z5⟩ | exact k5 | exact keep8c (below1 _ _) k5 | exact keep8y (w := w4) (but_two _ _ _ _) ⟨p0, p1, z0, z1, z2, z3, z4, z5⟩ k5 | exact keep8c (below1 _ _) ⟨p0, p1, z0, z1, z2, z3, z4, z5⟩ | go_keep)
          (first
            | (go_at_call 14; refine (HC.out _ (by first | exact belowD (Below.refl _ _) | exact (belowD (Below.refl _ _)).alloc (Nat.le_refl _) _)).mono ?_; rintro e w5 ⟨b', o', c', ta, tn, tc, rfl, y5, hc5, t5, b5, e5, f5⟩; first | (have k5 := keep8c (w := w4.drew) b5 ⟨p0, p1, z0, z1, z2, z3, z4, z5⟩) | (have k5 := keep8c b5 (keep8c (below1 w4.drew _) ⟨p0, p1, z0, z1, z2, z3, z4, z5⟩); have ZY : RB w5 w4.heap.size none 0 0 0 := (RB.new w4.drew none 0 0 0).below b5; obtain ⟨g0, g1, g2, g3⟩ := ZY)))
        all_goals
          first
            | (have NX := Nx.behind (w4 := w4) (s := s) b5 y5 hc5 t5 e5 f5; generalize w5.alloc (.cells #[.slice (some ⟨b', o', none⟩) N c', .int .i64 (s + out.steps)] 33) = w6 at NX ⊢; generalize w5.heap.size = Y at NX ⊢)
            | (have NX := Nx.ahead (s := s) b5 y5 hc5 t5 e5 f5 HBL.out; generalize (w5.setCell ⟨w4.heap.size, 0, none⟩ (.slice (some ⟨b', o', none⟩) N c')).setCell ⟨w4.heap.size, 1, none⟩ (.int .i64 (s + out.steps)) = w6 at NX ⊢; generalize w4.heap.size = Y at NX ⊢)
          obtain ⟨m0, m1, m2, m3⟩ := NX.rb
          obtain ⟨x0, x1, x2, x3⟩ := R4.out.below NX.below
          have hst : 0 ≤ out.steps ∧ out.steps ≤ 256 := by
            rcases HO.out with ⟨_, _, h⟩ | ⟨_, _, h, h1, h2⟩
            · omega
            · rw [h]
              have := HS.out.len
              have := HN.out
              omega
          have SN := Lib.hid (HS.out.next ⟨F.out.1, F.out.2.1, F.out.2.2.1⟩ F.out.2.2.2.2.2.2 HQ.out HG.out B4.out AR4.out HLN.out hst.1 hst.2 NX (by omega))
          have hXl : X < wr.heap.size := lt_of_cell (p := ⟨X, 0, none⟩) HS.out.rb.c0
          have T7 : Hid (Bytes ((w6.setCell ⟨X, 0, none⟩ (.slice (some ⟨b', o', none⟩) N c')).setCell ⟨X, 1, none⟩ (.int .i64 (s + out.steps))) w6.heap.size a4 n4 out.told) := Lib.hid
            ((T4.out.on NX.below).far (but_two w6 X _ _) (Nat.le_refl _) (fun h => by
              obtain ⟨f, o1, e, hf⟩ := F4.out h
              exact ⟨f, o1, e, by omega⟩))
          have T8 := Lib.hid (NX.keep HS.out.bx (Nat.lt_of_lt_of_le hXl B4.out.size) (.slice (some ⟨b', o', none⟩) N c') (.int .i64 (s + out.steps)))
          clear NX b5 y5 hc5 t5 e5 f5 k5 hst hXl
          try clear g0 g1 g2 g3
          clear p0 p1 p2 p3 z0 z1 z2 z3 z4 z5
          go_wp2_with fail
          generalize (w6.setCell ⟨X, 0, none⟩ (.slice (some ⟨b', o', none⟩) N c')).setCell ⟨X, 1, none⟩ (.int .i64 (s + out.steps)) = w7 at SN T7 T8 ⊢
          have hs1 : ∀ d, (convert 31 9 (.slice a4 n4 c4)).run Try.prog (w7.drewN d) = .ok (.string (strOfNums out.told)) (w7.drewN d) := fun d => string_run (T7.out.drewN d)
          have hs2 : ∀ d, (convert 31 9 (.slice ta tn tc)).run Try.prog (w7.drewN d) = .ok (.string (strOfNums out.told)) (w7.drewN d) := fun d => string_run (T8.out.drewN d)
          generalize strOfNums out.told = Sg at hs1 hs2
          have hWd : (out.word != out.word) = false := by simp
          have hEr : (out.err != out.err) = false := by simp
          have hSt : (s + out.steps != s + out.steps) = false := by simp
          have xc := SN.out.rb.c1
          have HT := Lib.hid (fun d => total_any g (s + out.steps) 0 (w7.drewN d) ((SN.out.drewN d).ar.mo g rfl))
          clear m0 m1 m2 m3 x0 x1 x2 x3
          go_quiet ((go_at_call 15; exact quiet1 (HT.out _)))
          go_wp2
          go_roundw
          case rel => exact ⟨k + 1, _, _, _, _, _, by omega, by go_num, SN.out.drewN _⟩
          case measure => simp [intOf]; omega
      · have dk : decide ((k : Int) < (ll : Int)) = false := by simp; omega
        have HLn : Hid (Calls Try.prog 17 #[.pointer (some ⟨p, 0, none⟩)] wr (R1 (N : Int) wr)) := Lib.hid (by have := len_any HS.out.ar; rwa [HS.out.len] at this)
        have HRd := Lib.hid (read_whole HS.out.ar HS.out.len)
        go_wp2_with fail
        refine HLn.out.mono ?_
        rintro e w4 ⟨rfl, rfl⟩
        go_wp2_with fail
        refine HRd.out.mono ?_
        rintro e w4 ⟨f, rfl, r4, a4, b4, hf⟩
        have C4 := Lib.hid (HS.out.below.trans (Ar.mine b4 HS.out.below.size HQ.out (fun _ e => by cases e; exact HG.out)))
        have R4 := HS.out.rb.but b4 (fun e => by have := F.out; rcases e with e | e; exact this.2.1 e; injection e with e; exact this.2.2.1 e.symm)
        have Y4 := HS.out.bytes.butAt b4 (Nat.le_refl _) (fun e => by rcases e with e | e; exact HS.out.bq e; injection e with e; exact HS.out.bg e.symm)
        have hs1 : (convert 31 9 (.slice (some ⟨f, 0, none⟩) N N)).run Try.prog w4 = .ok (.string (strOfNums xs)) w4 := string_run (r4.all HS.out.len)
        have hs2 : (convert 31 9 (.slice (some ⟨b, o, none⟩) N c)).run Try.prog w4 = .ok (.string (strOfNums xs)) w4 := string_run Y4
        generalize strOfNums xs = Sg at hs1 hs2
        obtain ⟨p0, p1, p2, p3⟩ := R4
        clear Y4 r4 a4 b4 hf HLn HRd
        go_wp2
        go_ret
        exact ⟨rfl, C4.out⟩

/-! ### The frame of the row -/
set_option maxRecDepth 100000 in
theorem lifted (os : Os) (started : os.Started) (H : Type) (enc : TypeId × Value → H) :
    ReturnsInHanded {} Try.checked os 3 .any (Rows.arenaUsesSpec.pre6 enc Try.prog Try.f3 Rows.arenaUsesRow.domain false) (Rows.arenaUsesSpec.post enc Try.prog Try.f3 false true false false) := by
  refine returnsInHanded_of_change (C := Try.checked) own started (by kernel_rfl) Try.func3
    (ChangeSpec.witness6 (enc := enc) (C := Try.checked) false ⟨#[], #[.int .u8 0, .slice none 0 0], []⟩ 8 (by kernel_rfl) (by kernel_rfl) (by kernel_rfl) (by kernel_rfl)) ?_
  intro W base args ds gs before hval0 hW hcnd _
  have hval : ∀ (j : Nat) t v, Try.f3.params[j]? = some t → args[j]? = some v → Value.okWide Try.prog W .any base t v := hval0
  have hW' := hW
  obtain ⟨p, q, hA0, hV, rfl, hfz, hnd⟩ := hW
  have hA : DataW.TrodAll enc Try.prog W 0 (fun _ => true) true Try.f3.params.toList args.toList ds p := hA0
  rw [Try.params3] at hA hval
  obtain ⟨v0, vs0, d0, ds0, p0, q0, hargs, rfl, rfl, h0, r0⟩ := trodAll_cons hA
  obtain ⟨v1, vs1, d1, ds1, p1, q1, rfl, rfl, rfl, h1, r1⟩ := trodAll_cons r0
  obtain ⟨rfl, rfl, rfl⟩ := trodAll_nil r1
  obtain rfl : args = #[v0, v1] := by cases args; simp_all
  obtain ⟨rfl, rfl⟩ := trodVars_none hV
  obtain ⟨n, rfl, rfl, rfl, hn⟩ := open_int Try.underlying5 (hval 0 5 v0 rfl rfl) h0
  have k1 := h1
  have lt1 : ∀ x ∈ p1, x.block < W.heap.size := by obtain ⟨m, hm⟩ := k1; exact DataW.trod_lt m _ _ _ hm
  obtain ⟨al, ll, cl, rfl⟩ := okWide_slice Try.underlying22 (hval 1 22 v1 rfl rfl)
  obtain ⟨l, hcl, hl⟩ : ∃ xs, ll ≤ cl ∧ Uses W W.heap.size al ll xs := by
    obtain ⟨fuel, hf⟩ := h1
    obtain ⟨a, l, c, xs, e, hl, hi⟩ := uses_field (by simpa [Value.cells] using hf)
    injection e with e1 e2 e3
    subst e1 e2 e3
    exact ⟨xs, hl, hi⟩
  clear hA0 hval0
  refine (walk n al ll cl l W hn hl hcl).mono fun e W' ⟨he, bel⟩ => ?_
  subst he
  exact ⟨_, rfl, _, _, _, [], _, [], hW', trodAll_mk1 (shut_bool Try.underlying4 _), (trodAll_cons_mk (shut_int Try.underlying5 hn) (trodAll_cons_mk (Below.trod laidOut (by kernel_rfl) (of_decide_eq_true (by kernel_rfl)) k1 bel lt1) trodAll_mk0)), rfl, bel.frame _, fun h => by cases h⟩

theorem over : Rows.arenaUsesRow.holds Try.pinned (OpenSpec.ofChange Rows.arenaUsesSpec) :=
  OpenClaim.holds_of_wide 3 Try.f3 rfl rfl rfl rfl rfl rfl rfl ⟨rfl, rfl, rfl, rfl, rfl⟩ rfl rfl rfl rfl rfl (by kernel_rfl) Try.func3 (by kernel_rfl)
    (of_decide_eq_true (by kernel_rfl)) (by unfold Func.isWrapper; first | (rw [if_pos (by decide +kernel)]; kernel_rfl) | (rw [if_neg (by decide +kernel)]; exact ⟨rfl, rfl⟩))
    (fun os started H enc _ => lifted os started H enc)

theorem proved : Rows.ArenaUsesSaid := over
#print axioms proved
end Go.Proofs.Ytnopeifgcpibaaa.arenaUses
