/-
  The document's own answers for package ring (almeryref07): Drop.
-/
import Derived.Test.YtakecddjpdiojaaRingRefWith
namespace Go.Proofs.Ytakecddjpdiojaa
open Go.ChangeShapes Go.WideShapes Go.ChangeAt Go.RowKit Go.Deep

/-- How an act ends. -/
def ActEnds (P : Nat → Prop) (M : Nat) (s : Int) (r : List (List Int) × Int) (w : World) (e : Ending) (w' : World) : Prop :=
  ∃ a cap Q, e = .returned (.tuple #[.agg #[.slice a M cap, .int .i64 s], .int .i64 r.2]) ∧ Lsp w' Q a M r.1 ∧ Below w.heap.size w w' ∧ ∀ k, Q k → P k ∨ w.heap.size ≤ k

section
variable {w : World} {P : Nat → Prop} {N M C : Nat} {L : List (List Int)}
/-- What is boxed at the beginning of an act. -/
def boxed (w : World) (a : Option Addr) (M c : Nat) (s : Int) : World := (w.alloc (.cells #[.slice a M c, .int .i64 s] 30)).alloc (.cells #[.slice none 0 0, .int .i64 0] 30)
theorem boxed_below (w : World) (a : Option Addr) (M c : Nat) (s : Int) : Below w.heap.size w (boxed w a M c s) := below2 w _ _
theorem boxed_size (w : World) (a : Option Addr) (M c : Nat) (s : Int) : (boxed w a M c s).heap.size = w.heap.size + 2 := by simp [boxed]
theorem boxed_x (w : World) (a : Option Addr) (M c : Nat) (s : Int) : Lv (boxed w a M c s) w.heap.size a M c s := (Lv.new w a M c s).below (below1 _ _)
theorem boxed_z (w : World) (a : Option Addr) (M c : Nat) (s : Int) : Lv (boxed w a M c s) (w.heap.size + 1) none 0 0 0 := by
  have := Lv.new (w.alloc (.cells #[.slice a M c, .int .i64 s] 30)) none 0 0 0
  simpa [boxed] using this

theorem refDrop_arg (a : Option Addr) (c : Nat) (n : Int) (h : Lsp w P a M L) (hq : inB N n = false) :
    Calls Try.prog 24 #[.agg #[.slice a M c, .int .i64 (N : Int)], .int .i64 n] w (ActEnds P M N (L, 1) w) := by
  have HL := Lib.hid h
  have bel : ∀ o1 o2 : Obj, ActEnds P M N (L, 1) w (.returned (.tuple #[.agg #[.slice a M c, .int .i64 (N : Int)], .int .i64 1])) ((w.alloc o1).alloc o2) := fun o1 o2 => ⟨a, c, P, rfl, HL.out.on (below2 w o1 o2), below2 w o1 o2, fun _ h => Or.inl h⟩
  have HE := Lib.hid bel
  clear h bel
  by_cases h0 : n < 0
  · have d1 : decide (n < 0) = true := by simpa using h0
    clear hq h0
    go_enter Try.func24, Try.ntmps24
    go_wp2
    refine bodyPost_ret (v := .tuple #[.agg #[.slice a M c, .int .i64 (N : Int)], .int .i64 1]) (by simp [results, Try.results24, go_sem]) rfl ?_
    exact HE.out _ _
  · have d1 : decide (n < 0) = false := by simpa using h0
    have d2 : decide ((N : Int) ≤ n) = true := by simp [inB] at hq; simp; omega
    clear hq h0
    go_enter Try.func24, Try.ntmps24
    go_wp2
    refine bodyPost_ret (v := .tuple #[.agg #[.slice a M c, .int .i64 (N : Int)], .int .i64 1]) (by simp [results, Try.results24, go_sem]) rfl ?_
    exact HE.out _ _

theorem refDrop_none (hw : Wf N M C L) (hM : 1 ≤ M) (a : Option Addr) (c : Nat) (n : Nat) (h : Lsp w P a M L) (hn : n < N) (hno : ∀ i j, ¬ At L i j (n : Int)) :
    Calls Try.prog 24 #[.agg #[.slice a M c, .int .i64 (N : Int)], .int .i64 (n : Int)] w (ActEnds P M N (L, 9) w) := by
  have HL := Lib.hid h
  have d1 : decide ((n : Int) < 0) = false := decide_eq_false (by omega)
  have d2 : decide ((N : Int) ≤ (n : Int)) = false := decide_eq_false (by omega)
  have HP := Lib.hid (refPlace_any hw hM a c N n (h.base.on (boxed_below w a M c N)))
  have HX := Lib.hid (boxed_x w a M c N)
  have HZ := Lib.hid (boxed_z w a M c N)
  have HS := Lib.hid (boxed_size w a M c N)
  have HB := Lib.hid (boxed_below w a M c N)
  rw [of_no hno, plcJ_no hno] at HP
  clear h hno
  have eb : (w.alloc (.cells #[.slice a M c, .int .i64 (N : Int)] 30)).alloc (.cells #[.slice none 0 0, .int .i64 0] 30) = boxed w a M c N := rfl
  have EB := Lib.hid eb
  clear eb
  go_enter Try.func24, Try.ntmps24
  go_wp2_with fail
  rw [EB.out]
  generalize boxed w a M c N = W at HP HX HZ HS HB ⊢
  refine HP.out.mono ?_
  rintro e w2 ⟨rfl, b2⟩
  have B2 := Lib.hid (belowT HB.out b2)
  obtain ⟨p0, p1, p2, p3⟩ := HX.out.below b2
  obtain ⟨q0, q1, q2, q3⟩ := HZ.out.below b2
  clear b2 EB
  go_wp2
  refine bodyPost_ret (v := .tuple #[.agg #[.slice a M c, .int .i64 (N : Int)], .int .i64 9]) (by simp [results, Try.results24, go_sem, q0, q1]) rfl ?_
  have B3 := B2.out.trans ((but_two w2 (w.heap.size + 1) (.slice a M c) (.int .i64 (N : Int))).one B2.out.size (by omega))
  exact ⟨a, c, P, rfl, HL.out.on B3, B3, fun _ h => Or.inl h⟩

theorem take_drop_erase (x : List Int) (j : Nat) : x.take j ++ x.drop (j + 1) = x.eraseIdx j := (List.eraseIdx_eq_take_drop_succ x j).symm

set_option maxHeartbeats 1000000 in
theorem refDrop_ok (hw : Wf N M C L) (hM : 1 ≤ M) (a : Option Addr) (c : Nat) (n : Nat) (h : Lsp w P a M L) (hn : n < N) {i j : Nat} (hat : At L i j (n : Int)) :
    Calls Try.prog 24 #[.agg #[.slice a M c, .int .i64 (N : Int)], .int .i64 (n : Int)] w (ActEnds P M N (dropL L i j, 0) w) := by
  have d1 : decide ((n : Int) < 0) = false := decide_eq_false (by omega)
  have d2 : decide ((N : Int) ≤ (n : Int)) = false := decide_eq_false (by omega)
  have HP := Lib.hid (refPlace_any hw hM a c N n (h.base.on (boxed_below w a M c N)))
  have HX := Lib.hid (boxed_x w a M c N)
  have HZ := Lib.hid (boxed_z w a M c N)
  have HS := Lib.hid (boxed_size w a M c N)
  have HB := Lib.hid (boxed_below w a M c N)
  have HLB := Lib.hid (h.base.on (boxed_below w a M c N))
  rw [hw.of hat, hw.plcJ hat] at HP
  have hi : i < M := by rw [← hw.len]; exact at_len hat
  have hj := at_lt hat
  have hmax := h.base.max
  have HL := Lib.hid h
  have e1 : decide ((i : Int) < 0) = false := decide_eq_false (by omega)
  have eb : (w.alloc (.cells #[.slice a M c, .int .i64 (N : Int)] 30)).alloc (.cells #[.slice none 0 0, .int .i64 0] 30) = boxed w a M c N := rfl
  have EB := Lib.hid eb
  clear eb h hat
  go_enter Try.func24, Try.ntmps24
  go_wp2_with fail
  rw [EB.out]
  generalize boxed w a M c N = W at HP HX HZ HS HB HLB ⊢
  refine HP.out.mono ?_
  rintro e w2 ⟨rfl, b2⟩
  have B2 := Lib.hid (belowT HB.out b2)
  have X2 := Lib.hid (HX.out.below b2)
  have Z2 := Lib.hid (HZ.out.below b2)
  have L2 := HLB.out.on b2
  have S2 : Hid (w.heap.size + 2 ≤ w2.heap.size) := Lib.hid (by rw [← HS.out]; exact b2.size)
  obtain ⟨b, o, rfl, hb, hh⟩ := L2.head (by omega)
  clear hh
  obtain ⟨ra, rc, r1, r2, r3, r4⟩ := L2.row hi
  obtain ⟨l, hl⟩ : ∃ l, l = ln L i := ⟨_, rfl⟩
  obtain ⟨x, hx⟩ : ∃ x, x = (L[i]?).getD [] := ⟨_, rfl⟩
  rw [← hl] at r1 r2 r3 r4 hj
  rw [← hx] at r3
  obtain ⟨b0, o0, rfl, hb0, hh⟩ := r3.head (by omega)
  clear hh
  have bA := below1 w2 (.cells #[] 3)
  have ownA : (w2.alloc (.cells #[] 3)).ownsRow w2.heap.size 3 1 (.slice (some ⟨w2.heap.size, 0, none⟩) 0 0) 0 (([] : List Int).map (Value.int .i64)) := World.ownsRow_lit w2 #[] 0 (Nat.le_refl _) (by unfold maxLen; omega) rfl
  obtain ⟨g1, cap1, w3, hrun1, hown1, b3⟩ := app_ints (c := rc) ownA ((r3.take (k := j) (by omega)).on bA) (by simp) (by omega) 42
  obtain ⟨ta, tc, ht1, hcut, hti⟩ := cut_from (c := rc) r3 (k := j + 1) (by omega) r2
  have bB : Below w2.heap.size w2 w3 := bA.trans b3
  obtain ⟨g2, cap2, w4, hrun2, hown2, b4⟩ := app_ints (c := tc) hown1 (hti.on bB) bB.size (by omega) 42
  have bC : Below w2.heap.size w2 w4 := bB.trans b4
  rw [List.nil_append, take_drop_erase] at hown2
  rw [Nat.zero_add] at hrun1 hrun2 hown2
  obtain ⟨K, hK⟩ : ∃ K, K = j + (l - (j + 1)) := ⟨_, rfl⟩
  rw [← hK] at hrun2 hown2
  have hfit : ∀ y ∈ x.eraseIdx j, -9223372036854775808 ≤ y ∧ y ≤ 9223372036854775807 := fun y hy => r3.2.2.1 y (List.mem_of_mem_eraseIdx hy)
  obtain ⟨I4, hI4⟩ := ints_own hown2 (by omega) hfit
  have HWI := Lib.hid (refWith_any b o c (N : Int) (L2.on bC) i hi (some ⟨g2, 0, none⟩) K cap2)
  have HI4 := Lib.hid I4
  have HI5 := Lib.hid hI4
  have HK : Hid (K ≤ 1000000) := Lib.hid (by omega)
  have HG2 := Lib.hid (hown2.lt g2 rfl)
  have hwr : IntKind.i64.wrap ((j : Int) + 1) = ((j + 1 : Nat) : Int) := by rw [IntWalk.i64_in _ (by omega)]; omega
  have hct : ∀ v, (Instr.sliceAt 42 (.slice (some ⟨b0, o0, none⟩) l rc) none (some (.int .i64 (j : Int))) none).run Try.prog v = .ok (.slice (some ⟨b0, o0, none⟩) j rc) v := cut_to (by omega) r2
  obtain ⟨j1, hj1⟩ : ∃ j1, j1 = j + 1 := ⟨_, rfl⟩
  rw [← hj1] at hwr hcut hrun2
  have XA := X2.out.below bA
  obtain ⟨p0, p1, p2, p3⟩ := X2.out
  obtain ⟨s0, s1, s2, s3⟩ := X2.out.below bB
  obtain ⟨t0, t1, t2, t3⟩ := X2.out.below bC
  have u0 := XA.c0
  have ur := (bA.cell (p := ⟨b, o + i, none⟩) hb).trans r1
  have us := (bB.cell (p := ⟨b, o + i, none⟩) hb).trans r1
  have R1 := Lib.hid hrun1
  have R2 := Lib.hid hrun2
  have B4 := Lib.hid (belowT B2.out bC)
  have Z4 := Lib.hid (Z2.out.below bC)
  have HD : Hid (L.set i (x.eraseIdx j) = dropL L i j) := Lib.hid (by rw [hx]; rfl)
  have HJL := Lib.hid (show j ≤ l ∧ j1 ≤ l by omega)
  clear b2 EB L2 r3 r4 ownA hown1 hown2 hrun1 hrun2 b3 b4 hti ht1 hfit I4 hI4 bA bB bC hK hx hl hj1 XA HP HLB
  go_wp2_with (first | (at_builtin; refine wpList_append_run rfl _ _ rfl rfl rfl rfl R1.out ?_) | (at_builtin; refine wpList_append_run rfl _ _ rfl rfl rfl rfl R2.out ?_))
  refine HWI.out.mono ?_
  rintro e w5 ⟨g5, cap5, rfl, hg5, hg6, hcap5, b5, hcell5⟩
  obtain ⟨q0, q1, q2, q3⟩ := Z4.out.below b5
  have L4 : Lsp w4 (fun k => P k ∨ k = g2) (some ⟨b, o, none⟩) M L := (HL.out.on B4.out).mono (fun _ h => Or.inl h) (fun k hk => by
    rcases hk with hk | hk
    · exact Nat.lt_of_lt_of_le (HL.out.lt k hk) B4.out.size
    · have := HG2.out; omega)
  have L5 := lsp_with L4 hi b5 hg6 hcell5 HI4.out HI5.out HK.out (fun _ => ⟨g2, 0, rfl, Or.inr rfl⟩)
  rw [HD.out] at L5
  have H5 := Lib.hid L5
  have B5 := Lib.hid (belowT B4.out b5)
  have HGG : Hid (w.heap.size + 2 ≤ g2 ∧ w.heap.size + 2 ≤ g5) := Lib.hid (by have := HG2.out; have := S2.out; omega)
  clear L4 L5 b5 hcell5 hg5 hg6 hcap5
  go_wp2
  refine bodyPost_ret (v := .tuple #[.agg #[.slice (some ⟨g5, 0, none⟩) M cap5, .int .i64 (N : Int)], .int .i64 0]) (by simp [results, Try.results24, go_sem, q0, q1]) rfl ?_
  have hb6 := but_two w5 (w.heap.size + 1) (.slice (some ⟨g5, 0, none⟩) M cap5) (.int .i64 (N : Int))
  have hgg := HGG.out
  refine ⟨_, _, _, rfl, H5.out.but hb6 (fun k hk e => ?_), B5.out.trans (hb6.one B5.out.size (by omega)), fun k hk => ?_⟩
  · rcases hk with (hk | hk) | hk
    · have := HL.out.lt k hk; omega
    · omega
    · omega
  · rcases hk with (hk | hk) | hk
    · exact Or.inl hk
    · exact Or.inr (by omega)
    · exact Or.inr (by omega)
end
end Go.Proofs.Ytakecddjpdiojaa
