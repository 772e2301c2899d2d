/-
  The document's own answers for package ring (almeryref07): Push.
-/
import Derived.Test.YtakecddjpdiojaaRingRefDrop
import Derived.Test.YtakecddjpdiojaaRegImp
namespace Go.Proofs.Ytakecddjpdiojaa
open Go.ChangeShapes Go.WideShapes Go.ChangeAt Go.RowKit Go.Deep

theorem keep3 {w w' : World} (hb : Below w.heap.size w w') {p0 p1 p2 : Addr} {x0 x1 x2 : Value}
    (h : w.cell? p0 = some x0 ∧ w.cell? p1 = some x1 ∧ w.cell? p2 = some x2) : w'.cell? p0 = some x0 ∧ w'.cell? p1 = some x1 ∧ w'.cell? p2 = some x2 :=
  ⟨(hb.cell (lt_of_cell h.1)).trans h.1, (hb.cell (lt_of_cell h.2.1)).trans h.2.1, (hb.cell (lt_of_cell h.2.2)).trans h.2.2⟩
section
variable {w : World} {P : Nat → Prop} {N M C : Nat} {L : List (List Int)}
theorem refPush_arg (a : Option Addr) (c : Nat) (i n : Int) (h : Lsp w P a M L) (hq : ¬ (inB M i = true ∧ inB N n = true)) :
    Calls Try.prog 25 #[.agg #[.slice a M c, .int .i64 (N : Int)], .int .i64 i, .int .i64 n] w (ActEnds P M N (L, 1) w) := by
  have HL := Lib.hid h
  have bel : ∀ o1 o2 : Obj, ActEnds P M N (L, 1) w (.returned (.tuple #[.agg #[.slice a M c, .int .i64 (N : Int)], .int .i64 1])) ((w.alloc o1).alloc o2) := fun o1 o2 => ⟨a, c, P, rfl, HL.out.on (below2 w o1 o2), below2 w o1 o2, fun _ h => Or.inl h⟩
  have HE := Lib.hid bel
  clear h bel
  by_cases h0 : i < 0
  · have d1 : decide (i < 0) = true := by simpa using h0
    clear hq h0
    go_enter Try.func25, Try.ntmps25
    go_wp2
    refine bodyPost_ret (v := .tuple #[.agg #[.slice a M c, .int .i64 (N : Int)], .int .i64 1]) (by simp [results, Try.results25, go_sem]) rfl ?_
    exact HE.out _ _
  have d1 : decide (i < 0) = false := by simpa using h0
  by_cases h1 : (M : Int) ≤ i
  · have d2 : decide ((M : Int) ≤ i) = true := by simpa using h1
    clear hq h0 h1
    go_enter Try.func25, Try.ntmps25
    go_wp2
    refine bodyPost_ret (v := .tuple #[.agg #[.slice a M c, .int .i64 (N : Int)], .int .i64 1]) (by simp [results, Try.results25, go_sem]) rfl ?_
    exact HE.out _ _
  have d2 : decide ((M : Int) ≤ i) = false := by simpa using h1
  by_cases h2 : n < 0
  · have d3 : decide (n < 0) = true := by simpa using h2
    clear hq h0 h1 h2
    go_enter Try.func25, Try.ntmps25
    go_wp2
    refine bodyPost_ret (v := .tuple #[.agg #[.slice a M c, .int .i64 (N : Int)], .int .i64 1]) (by simp [results, Try.results25, go_sem]) rfl ?_
    exact HE.out _ _
  have d3 : decide (n < 0) = false := by simpa using h2
  have d4 : decide ((N : Int) ≤ n) = true := by simp [inB] at hq; simp; omega
  clear hq h0 h1 h2
  go_enter Try.func25, Try.ntmps25
  go_wp2
  refine bodyPost_ret (v := .tuple #[.agg #[.slice a M c, .int .i64 (N : Int)], .int .i64 1]) (by simp [results, Try.results25, go_sem]) rfl ?_
  exact HE.out _ _

theorem refPush_there (hw : Wf N M C L) (hM : 1 ≤ M) (a : Option Addr) (c : Nat) (i n : Nat) (h : Lsp w P a M L) (hi : i < M) (hn : n < N) {i' j : Nat} (hat : At L i' j (n : Int)) :
    Calls Try.prog 25 #[.agg #[.slice a M c, .int .i64 (N : Int)], .int .i64 (i : Int), .int .i64 (n : Int)] w (ActEnds P M N (L, 10) w) := by
  have HL := Lib.hid h
  have d1 : decide ((i : Int) < 0) = false := decide_eq_false (by omega)
  have d2 : decide ((M : Int) ≤ (i : Int)) = false := decide_eq_false (by omega)
  have d3 : decide ((n : Int) < 0) = false := decide_eq_false (by omega)
  have d4 : decide ((N : Int) ≤ (n : Int)) = false := decide_eq_false (by omega)
  have HP := Lib.hid (refPlace_any hw hM a c N n (h.base.on (boxed_below w a M c N)))
  have HX := Lib.hid (boxed_x w a M c N)
  have HZ := Lib.hid (boxed_z w a M c N)
  have HB := Lib.hid (boxed_below w a M c N)
  rw [hw.of hat, hw.plcJ hat] at HP
  have d5 : decide ((0 : Int) ≤ (i' : Int)) = true := decide_eq_true (by omega)
  clear h hat
  have eb : (w.alloc (.cells #[.slice a M c, .int .i64 (N : Int)] 30)).alloc (.cells #[.slice none 0 0, .int .i64 0] 30) = boxed w a M c N := rfl
  have EB := Lib.hid eb
  clear eb
  go_enter Try.func25, Try.ntmps25
  go_wp2_with fail
  rw [EB.out]
  generalize boxed w a M c N = W at HP HX HZ HB ⊢
  refine HP.out.mono ?_
  rintro e w2 ⟨rfl, b2⟩
  have B2 := Lib.hid (belowT HB.out b2)
  obtain ⟨p0, p1, p2, p3⟩ := HX.out.below b2
  obtain ⟨q0, q1, q2, q3⟩ := HZ.out.below b2
  clear b2 EB
  go_wp2
  refine bodyPost_ret (v := .tuple #[.agg #[.slice a M c, .int .i64 (N : Int)], .int .i64 10]) (by simp [results, Try.results25, go_sem, q0, q1]) rfl ?_
  have B3 := B2.out.trans ((but_two w2 (w.heap.size + 1) (.slice a M c) (.int .i64 (N : Int))).one B2.out.size (by omega))
  exact ⟨a, c, P, rfl, HL.out.on B3, B3, fun _ h => Or.inl h⟩

set_option maxHeartbeats 1000000 in
theorem refPush_ok (hw : Wf N M C L) (hM : 1 ≤ M) (hC : C ≤ 1000) (hN : N ≤ 4096) (a : Option Addr) (c : Nat) (i n : Nat) (h : Lsp w P a M L) (hi : i < M) (hn : n < N) (hno : ∀ i j, ¬ At L i j (n : Int)) :
    Calls Try.prog 25 #[.agg #[.slice a M c, .int .i64 (N : Int)], .int .i64 (i : Int), .int .i64 (n : Int)] w (ActEnds P M N (pushL L i n, 0) w) := by
  have HL := Lib.hid h
  have d1 : decide ((i : Int) < 0) = false := decide_eq_false (by omega)
  have d2 : decide ((M : Int) ≤ (i : Int)) = false := decide_eq_false (by omega)
  have d3 : decide ((n : Int) < 0) = false := decide_eq_false (by omega)
  have d4 : decide ((N : Int) ≤ (n : Int)) = false := decide_eq_false (by omega)
  have hmax := h.base.max
  have HP := Lib.hid (refPlace_any hw hM a c N n (h.base.on (boxed_below w a M c N)))
  have HX := Lib.hid (boxed_x w a M c N)
  have HZ := Lib.hid (boxed_z w a M c N)
  have HS := Lib.hid (boxed_size w a M c N)
  have HB := Lib.hid (boxed_below w a M c N)
  have HLB := Lib.hid (h.base.on (boxed_below w a M c N))
  rw [of_no hno, plcJ_no hno] at HP
  have hfew := hw.few i
  clear h hno
  have eb : (w.alloc (.cells #[.slice a M c, .int .i64 (N : Int)] 30)).alloc (.cells #[.slice none 0 0, .int .i64 0] 30) = boxed w a M c N := rfl
  have EB := Lib.hid eb
  clear eb
  go_enter Try.func25, Try.ntmps25
  go_wp2_with fail
  rw [EB.out]
  generalize boxed w a M c N = W at HP HX HZ HS HB HLB ⊢
  refine HP.out.mono ?_
  rintro e w2 ⟨rfl, b2⟩
  have B2 := Lib.hid (belowT HB.out b2)
  have X2 := Lib.hid (HX.out.below b2)
  have Z2 := Lib.hid (HZ.out.below b2)
  have L2 := HLB.out.on b2
  have S2 : Hid (w.heap.size + 2 ≤ w2.heap.size) := Lib.hid (by rw [← HS.out]; exact b2.size)
  obtain ⟨b, o, rfl, hb, hh⟩ := L2.head (by omega)
  clear hh
  obtain ⟨ra, rc, r1, r2, r3, r4⟩ := L2.row hi
  obtain ⟨l, hl⟩ : ∃ l, l = ln L i := ⟨_, rfl⟩
  obtain ⟨x, hx⟩ : ∃ x, x = (L[i]?).getD [] := ⟨_, rfl⟩
  rw [← hl] at r1 r2 r3 r4 hfew
  rw [← hx] at r3
  have bA := below1 w2 (.cells #[.int .i64 (n : Int)] 3)
  have ownA : (w2.alloc (.cells #[.int .i64 (n : Int)] 3)).ownsRow w2.heap.size 3 1 (.slice (some ⟨w2.heap.size, 0, none⟩) 1 1) 1 (([(n : Int)] : List Int).map (Value.int .i64)) := World.ownsRow_lit w2 #[.int .i64 (n : Int)] 1 (Nat.le_refl _) (by unfold maxLen; omega) rfl
  have ownD : (w2.alloc (.cells #[.int .i64 (n : Int)] 3)).drew.ownsRow w2.heap.size 3 1 (.slice (some ⟨w2.heap.size, 0, none⟩) 1 1) 1 (([(n : Int)] : List Int).map (Value.int .i64)) := ownA
  have r3' : Ints (w2.alloc (.cells #[.int .i64 (n : Int)] 3)).drew (w2.alloc (.cells #[.int .i64 (n : Int)] 3)).drew.heap.size ra l x := r3.on (belowD bA)
  obtain ⟨g1, cap1, w3, hrun1, hown1, b3⟩ := app_ints (c := rc) ownD r3' (by simp) (by omega) 42
  have bC : Below w2.heap.size w2 w3 := (belowD bA).trans b3
  obtain ⟨K, hK⟩ : ∃ K, K = 1 + l := ⟨_, rfl⟩
  rw [← hK] at hrun1 hown1
  have hfit : ∀ y ∈ [(n : Int)] ++ x, -9223372036854775808 ≤ y ∧ y ≤ 9223372036854775807 := fun y hy => by
    rcases List.mem_append.1 hy with e | e
    · rw [List.mem_singleton.1 e]; omega
    · exact r3.2.2.1 y e
  obtain ⟨I4, hI4⟩ := ints_own hown1 (by omega) hfit
  have HWI := Lib.hid (refWith_any b o c (N : Int) (L2.on bC) i hi (some ⟨g1, 0, none⟩) K cap1)
  have HI4 := Lib.hid I4
  have HI5 := Lib.hid hI4
  have HK : Hid (K ≤ 1000000) := Lib.hid (by omega)
  have HG2 := Lib.hid (hown1.lt g1 rfl)
  obtain ⟨p0, p1, p2, p3⟩ := X2.out
  obtain ⟨s0, s1, s2, s3⟩ := X2.out.below bC
  have us := (bC.cell (p := ⟨b, o + i, none⟩) hb).trans r1
  have R1 := Lib.hid hrun1
  have B4 := Lib.hid (belowT B2.out bC)
  have Z4 := Lib.hid (Z2.out.below bC)
  have HD : Hid (L.set i ([(n : Int)] ++ x) = pushL L i n) := Lib.hid (by rw [hx]; rfl)
  have S3 := Lib.hid (show w3.cell? ⟨w.heap.size, 0, none⟩ = some (.slice (some ⟨b, o, none⟩) M c) ∧ w3.cell? ⟨w.heap.size, 1, none⟩ = some (.int .i64 (N : Int)) ∧ w3.cell? ⟨b, o + i, none⟩ = some (.slice ra l rc) from ⟨s0, s1, us⟩)
  have hlt := lt_of_cell (p := ⟨w.heap.size, 0, none⟩) p0
  have hi0 : (0 : Int) ≤ (i : Int) := by omega
  have hi1 : (i : Int) < (M : Int) := by omega
  have hbw : b < w.heap.size := HL.out.lt b (HL.out.head b o rfl)
  have hbn : ¬ b = w.heap.size + 1 := by omega
  have hbm : ¬ w.heap.size + 1 = b := by omega
  have d6 : decide ((0 : Int) ≤ -1) = false := rfl
  clear b2 EB L2 r3 r3' r4 ownA ownD hown1 hrun1 b3 hfit I4 hI4 bA bC hK hx hl HP HLB s0 s1 s2 s3 us
  go_wp2
  go_region_held3 (fun w' => w'.cell? ⟨w.heap.size, 0, none⟩ = some (.slice (some ⟨b, o, none⟩) M c) ∧ w'.cell? ⟨w.heap.size, 1, none⟩ = some (.int .i64 (N : Int)) ∧ w'.cell? ⟨b, o + i, none⟩ = some (.slice ra l rc))
    (first | exact S3.out | exact keep3 b5 S3.out | go_keep)
    (first | (refine step_append_run rfl _ _ rfl rfl rfl rfl R1.out ?_) | (go_at_call 32; refine HWI.out.mono ?_; rintro e w5 ⟨g5, cap5, rfl, hg5, hg6, hcap5, b5, hcell5⟩; obtain ⟨q0, q1, q2, q3⟩ := Z4.out.below b5))
  have L4 : Lsp w3 (fun k => P k ∨ k = g1) (some ⟨b, o, none⟩) M L := (HL.out.on B4.out).mono (fun _ h => Or.inl h) (fun k hk => by
    rcases hk with hk | hk
    · exact Nat.lt_of_lt_of_le (HL.out.lt k hk) B4.out.size
    · have := HG2.out; omega)
  have L5 := lsp_with L4 hi b5 hg6 hcell5 HI4.out HI5.out HK.out (fun _ => ⟨g1, 0, rfl, Or.inr rfl⟩)
  rw [HD.out] at L5
  have H5 := Lib.hid L5
  have B5 := Lib.hid (belowT B4.out b5)
  have HGG : Hid (w.heap.size + 2 ≤ g1 ∧ w.heap.size + 2 ≤ g5) := Lib.hid (by have := HG2.out; have := S2.out; omega)
  clear L4 L5 b5 hcell5 hg5 hg6 hcap5
  go_wp2
  refine bodyPost_ret (v := .tuple #[.agg #[.slice (some ⟨g5, 0, none⟩) M cap5, .int .i64 (N : Int)], .int .i64 0]) (by simp [results, Try.results25, go_sem, q0, q1]) rfl ?_
  have hb6 := but_two w5 (w.heap.size + 1) (.slice (some ⟨g5, 0, none⟩) M cap5) (.int .i64 (N : Int))
  have hgg := HGG.out
  refine ⟨_, _, _, rfl, H5.out.but hb6 (fun k hk e => ?_), B5.out.trans (hb6.one B5.out.size (by omega)), fun k hk => ?_⟩
  · rcases hk with (hk | hk) | hk
    · have := HL.out.lt k hk; omega
    · omega
    · omega
  · rcases hk with (hk | hk) | hk
    · exact Or.inl hk
    · exact Or.inr (by omega)
    · exact Or.inr (by omega)
end
end Go.Proofs.Ytakecddjpdiojaa
