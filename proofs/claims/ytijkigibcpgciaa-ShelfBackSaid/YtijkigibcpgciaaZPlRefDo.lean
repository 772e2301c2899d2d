import Derived.Test.YtijkigibcpgciaaZPlRefAct
/-
  The document's own answers for package pool (almeryref08): Take and Give, of any argument.
-/
namespace Go.Proofs.Ytijkigibcpgciaa.Pl
open Go.ChangeShapes Go.WideShapes Go.ChangeAt Go.RowKit Go.Deep
set_option maxRecDepth 100000

section
variable {w : World} {P : Nat → Prop} {oa fa : Option Addr} {oc fc n K : Nat} {O fl r : List Int}
set_option maxHeartbeats 1000000 in
theorem refTake_ok {k : Nat} (h : Rp w P oa oc fa fc n K O ((k : Int) :: r)) (hk : k < K) (hK : K ≤ 1024) (o : Int) (h0 : 0 ≤ o) (ho : Fit o) :
    Calls Try.prog 79 #[.agg #[.slice oa K oc, .slice fa n fc], .int .i64 o] w (RefTake P K (O.set k o, r, k, 0) w) := by
  have hlen := h.free.len
  rw [List.length_cons] at hlen
  have hn0 : 0 < n := by omega
  obtain ⟨fb, fo, e, hfb, hfc⟩ := h.free.head hn0
  subst e
  have hP : P fb := by
    obtain ⟨b, o', e, q⟩ := h.pf hn0
    injection e with e
    injection e with e1 e2
    subst e1
    exact q
  have c0 := hfc 0 (k : Int) rfl
  rw [Nat.add_zero] at c0
  obtain ⟨o1, fc1, hfc1, hcut, hI1⟩ := cut_tail h.free (k := 1) (by omega) h.fc_
  have hcut1 : ∀ v, (Instr.sliceAt 31 (.slice (some ⟨fb, fo, none⟩) n fc) (some (.int .i64 1)) none none).run Try.prog v = .ok (.slice (some ⟨fb, o1, none⟩) (n - 1) fc1) v := hcut
  have hd1 : ((k : Int) :: r).drop 1 = r := rfl
  rw [hd1] at hI1
  have bW := boxed_below w oa K oc (some ⟨fb, fo, none⟩) n fc
  have HWI := Lib.hid (refWith_any (oc := oc) (fa := some ⟨fb, fo, none⟩) (fc := fc) (n := n) (h.own.on bW) k hk hK o ho)
  have HX := Lib.hid (boxed_x w oa K oc (some ⟨fb, fo, none⟩) n fc)
  have HZ := Lib.hid (boxed_z w oa K oc (some ⟨fb, fo, none⟩) n fc)
  have HB := Lib.hid bW
  have HS := Lib.hid (boxed_size w oa K oc (some ⟨fb, fo, none⟩) n fc)
  have HH := Lib.hid h
  have H1 := Lib.hid hI1
  have HF := Lib.hid hfc1
  have HPb := Lib.hid hP
  have hnm := h.free.max
  have d1 : decide (o < 0) = false := by simpa using h0
  have e1 : ((n : Int) == 0) = false := beq_eq_false_iff_ne.2 (by omega)
  have hn1 : (0 : Int) < (n : Int) := by omega
  have eb : (w.alloc (.cells #[.slice oa K oc, .slice (some ⟨fb, fo, none⟩) n fc] 33)).alloc (.cells #[.slice none 0 0, .slice none 0 0] 33) = boxed w oa K oc (some ⟨fb, fo, none⟩) n fc := rfl
  have EB := Lib.hid eb
  clear eb h hcut hI1 hfc bW hP hfc1 hd1 h0
  go_enter Try.func79, Try.ntmps79
  go_wp2_with fail
  rw [EB.out]
  generalize boxed w oa K oc (some ⟨fb, fo, none⟩) n fc = W at HWI HX HZ HB HS ⊢
  refine HWI.out.mono ?_
  rintro e w2 ⟨g, cap, rfl, i2, hg, hg2, hcap, b2⟩
  have B2 := Lib.hid (belowT HB.out b2)
  have I2 := Lib.hid i2
  have HG : Hid (w.heap.size + 2 ≤ g ∧ g < w2.heap.size) := Lib.hid (by have := HS.out; omega)
  have HC := Lib.hid hcap
  have hs2 : w.heap.size + 2 ≤ w2.heap.size := by have := HS.out; have := b2.size; omega
  have hs3 : w.heap.size < w2.heap.size := by omega
  have hs4 : w.heap.size + 1 < w2.heap.size := by omega
  obtain ⟨p0, p1, p2, p3⟩ := HX.out.below b2
  have Z2 := Lib.hid (HZ.out.below b2)
  obtain ⟨q0, q1, q2, q3⟩ := Z2.out
  clear b2 EB i2 hg hg2 hcap HWI HX
  go_wp2
  obtain ⟨r0, r1, _, _⟩ := (Z2.out.set (some ⟨g, 0, none⟩) K cap (some ⟨fb, o1, none⟩) (n - 1) fc1).below (below1 _ (.cells #[.slice (some ⟨g, 0, none⟩) K cap, .slice (some ⟨fb, o1, none⟩) (n - 1) fc1] 33))
  refine bodyPost_ret (v := .tuple #[.agg #[.slice (some ⟨g, 0, none⟩) K cap, .slice (some ⟨fb, o1, none⟩) (n - 1) fc1], .int .i64 (k : Int), .int .i64 0]) (by simp [results, Try.results79, go_sem, r0, r1]) rfl ?_
  have bX : But (· = w.heap.size + 1) w2 _ := (but_two w2 (w.heap.size + 1) (.slice (some ⟨g, 0, none⟩) K cap) (.slice (some ⟨fb, o1, none⟩) (n - 1) fc1)).alloc (.cells #[.slice (some ⟨g, 0, none⟩) K cap, .slice (some ⟨fb, o1, none⟩) (n - 1) fc1] 33)
  have hg := HG.out
  have rp : Rp w2 (fun i => P i ∨ i = g) (some ⟨g, 0, none⟩) cap (some ⟨fb, o1, none⟩) fc1 (n - 1) K (O.set k o) r :=
    ⟨I2.out, H1.out.on B2.out, HC.out, HF.out, fun i hi => by
      rcases hi with q | q
      · exact Nat.lt_of_lt_of_le (HH.out.lt i q) B2.out.size
      · omega, fun _ => ⟨g, 0, rfl, Or.inr rfl⟩, fun _ => ⟨fb, o1, rfl, Or.inl HPb.out⟩⟩
  refine ⟨_, _, _, _, _, fun i => P i ∨ i = g, rfl, rp.but bX (fun i hi e => ?_), B2.out.trans (bX.one B2.out.size (by omega)), fun i hi => ?_⟩
  · rcases hi with q | q
    · have := HH.out.lt i q; omega
    · omega
  · rcases hi with q | q
    · exact Or.inl q
    · exact Or.inr (by omega)

set_option maxHeartbeats 1000000 in
theorem refGive_ok (h : Rp w P oa oc fa fc n K O fl) (k : Nat) (hk : k < K) (hK : K ≤ 1024) (hn : n ≤ 1024) {x : Int} (hx : O[k]? = some x) (hne : x ≠ -1) :
    Calls Try.prog 64 #[.agg #[.slice oa K oc, .slice fa n fc], .int .i64 (k : Int)] w (RefGive P K (O.set k (-1), (k : Int) :: fl, 0) w) := by
  obtain ⟨ob, oo, e, hob, hoc⟩ := h.own.head (by omega)
  subst e
  have c0 := hoc k x hx
  have hkm := h.own.max
  have bW := boxed_below w (some ⟨ob, oo, none⟩) K oc fa n fc
  have HWI := Lib.hid (refWith_any (oc := oc) (fa := fa) (fc := fc) (n := n) (h.own.on bW) k hk hK (-1) (by unfold Fit; omega))
  have HX := Lib.hid (boxed_x w (some ⟨ob, oo, none⟩) K oc fa n fc)
  have HZ := Lib.hid (boxed_z w (some ⟨ob, oo, none⟩) K oc fa n fc)
  have HB := Lib.hid bW
  have HS := Lib.hid (boxed_size w (some ⟨ob, oo, none⟩) K oc fa n fc)
  have HH := Lib.hid h
  have d1 : decide ((k : Int) < 0) = false := decide_eq_false (by omega)
  have d2 : decide ((K : Int) ≤ (k : Int)) = false := decide_eq_false (by omega)
  have e1 : (x == -1) = false := beq_eq_false_iff_ne.2 hne
  have eb : (w.alloc (.cells #[.slice (some ⟨ob, oo, none⟩) K oc, .slice fa n fc] 33)).alloc (.cells #[.slice none 0 0, .slice none 0 0] 33) = boxed w (some ⟨ob, oo, none⟩) K oc fa n fc := rfl
  have EB := Lib.hid eb
  clear eb h hoc bW hx hne
  go_enter Try.func64, Try.ntmps64
  go_wp2_with fail
  rw [EB.out]
  generalize boxed w (some ⟨ob, oo, none⟩) K oc fa n fc = W at HWI HX HZ HB HS ⊢
  refine HWI.out.mono ?_
  rintro e w2 ⟨g, cap, rfl, i2, hg, hg2, hcap, b2⟩
  obtain ⟨V3, hV3⟩ : ∃ V3, V3 = w2.alloc (.cells #[.slice (some ⟨g, 0, none⟩) K cap, .slice fa n fc] 33) := ⟨_, rfl⟩
  have s3 : V3.heap.size = w2.heap.size + 1 := by rw [hV3]; simp
  have b3 : Below w2.heap.size w2 V3 := by rw [hV3]; exact below1 _ _
  have y3 : Bv V3 w2.heap.size (some ⟨g, 0, none⟩) K cap fa n fc := by rw [hV3]; exact Bv.new w2 _ _ _ _ _ _
  have bw3 : Below w.heap.size w V3 := belowT (belowT HB.out b2) b3
  have ownA : (V3.alloc (.cells #[.int .i64 (k : Int)] 3)).ownsRow V3.heap.size 3 1 (.slice (some ⟨V3.heap.size, 0, none⟩) 1 1) 1 (([(k : Int)] : List Int).map (Value.int .i64)) := World.ownsRow_lit V3 #[.int .i64 (k : Int)] 1 (Nat.le_refl _) (by unfold maxLen; omega) rfl
  obtain ⟨f, fcap, w4, hrun, hown, b4⟩ := app_ints (c := fc) ownA ((HH.out.free.on bw3).on (below1 V3 (.cells #[.int .i64 (k : Int)] 3))) (by simp) (by omega) 31
  have bb4 : Below V3.heap.size V3 w4 := (below1 V3 _).trans b4
  have hfit : ∀ y ∈ [(k : Int)] ++ fl, -9223372036854775808 ≤ y ∧ y ≤ 9223372036854775807 := fun y hy => by
    rcases List.mem_append.1 hy with e | e
    · rw [List.mem_singleton.1 e]; omega
    · exact HH.out.free.2.2.1 y e
  obtain ⟨I4, hI4⟩ := ints_own hown (by omega) hfit
  obtain ⟨M, hM⟩ : ∃ M, M = 1 + n := ⟨_, rfl⟩
  rw [← hM] at hrun hown I4 hI4
  have hf := hown.lt f rfl
  have hss := HS.out
  have hbs := b2.size
  have HGF : Hid (w.heap.size + 2 ≤ g ∧ g < w2.heap.size ∧ w2.heap.size < f ∧ f < w4.heap.size ∧ w2.heap.size < w4.heap.size) := Lib.hid (by have := bb4.size; omega)
  have HI4 := Lib.hid I4
  have HC4 := Lib.hid hI4
  have HI2 := Lib.hid ((i2.on b3).on bb4)
  have HC := Lib.hid hcap
  have B4 := Lib.hid (belowT bw3 bb4)
  obtain ⟨p0, p1, p2, p3⟩ := (HX.out.below b2).below b3
  have hs3 : w.heap.size < w2.heap.size := by omega
  have hs4 : w.heap.size + 1 < w2.heap.size := by omega
  have hs5 : w2.heap.size < w4.heap.size := HGF.out.2.2.2.2
  have Z4 := Lib.hid ((((HZ.out.below b2).below b3)).below bb4)
  have Y4 := Lib.hid (y3.below bb4)
  obtain ⟨q0, q1, q2, q3⟩ := Z4.out
  obtain ⟨y0, y1, y2, y4⟩ := Y4.out
  rw [hV3] at p0 p1 p2 p3
  rw [s3, hV3] at hrun
  have R1 := Lib.hid hrun
  clear b2 b3 EB i2 hg hg2 hcap HWI HX hV3 s3 y3 bw3 ownA hrun hown b4 bb4 hfit I4 hI4 hM hf hss hbs
  go_wp2_with (at_builtin; refine wpList_append_run rfl _ _ rfl rfl rfl rfl R1.out ?_)
  have bY := but_one w4 w2.heap.size 1 (.slice (some ⟨f, 0, none⟩) M fcap)
  obtain ⟨r0, r1, _, _⟩ := (Z4.out.but bY (fun e => by omega)).set (some ⟨g, 0, none⟩) K cap (some ⟨f, 0, none⟩) M fcap
  refine bodyPost_ret (v := .tuple #[.agg #[.slice (some ⟨g, 0, none⟩) K cap, .slice (some ⟨f, 0, none⟩) M fcap], .int .i64 0]) (by simp [results, Try.results64, go_sem, r0, r1]) rfl ?_
  have bX := but_two (w4.setCell ⟨w2.heap.size, 1, none⟩ (.slice (some ⟨f, 0, none⟩) M fcap)) (w.heap.size + 1) (.slice (some ⟨g, 0, none⟩) K cap) (.slice (some ⟨f, 0, none⟩) M fcap)
  have hg := HGF.out
  have rp : Rp w4 (fun i => P i ∨ i = g ∨ i = f) (some ⟨g, 0, none⟩) cap (some ⟨f, 0, none⟩) fcap M K (O.set k (-1)) ((k : Int) :: fl) :=
    ⟨HI2.out, HI4.out, HC.out, HC4.out, fun i hi => by
      rcases hi with q | q | q
      · exact Nat.lt_of_lt_of_le (HH.out.lt i q) B4.out.size
      · omega
      · omega, fun _ => ⟨g, 0, rfl, Or.inr (Or.inl rfl)⟩, fun _ => ⟨f, 0, rfl, Or.inr (Or.inr rfl)⟩⟩
  have B5 : Below w.heap.size w (w4.setCell ⟨w2.heap.size, 1, none⟩ (.slice (some ⟨f, 0, none⟩) M fcap)) := B4.out.trans (bY.one B4.out.size (by omega))
  refine ⟨_, _, _, _, _, fun i => P i ∨ i = g ∨ i = f, rfl, (rp.but bY (fun i hi e => ?_)).but bX (fun i hi e => ?_), B5.trans (bX.one B5.size (by omega)), fun i hi => ?_⟩
  · rcases hi with q | q | q
    · have := HH.out.lt i q; omega
    · omega
    · omega
  · rcases hi with q | q | q
    · have := HH.out.lt i q; omega
    · omega
    · omega
  · rcases hi with q | q | q
    · exact Or.inl q
    · exact Or.inr (by omega)
    · exact Or.inr (by omega)

theorem refTake_any (h : Rp w P oa oc fa fc n K O fl) (hw : Pw K O fl) (hK : K ≤ 1024) (o : Int) (ho : Fit o) :
    Calls Try.prog 79 #[.agg #[.slice oa K oc, .slice fa n fc], .int .i64 o] w (RefTake P K (takeOut O fl o) w) := by
  unfold takeOut
  by_cases h0 : o < 0
  · rw [if_pos h0]
    exact refTake_arg h o h0
  · rw [if_neg h0]
    cases fl with
    | nil => exact refTake_none h o (by omega)
    | cons x r =>
      obtain ⟨k, rfl, hk⟩ := hw.lt (x := x) (by simp)
      exact refTake_ok h hk hK o (by omega) ho
theorem refGive_any (h : Rp w P oa oc fa fc n K O fl) (hw : Pw K O fl) (hK : K ≤ 1024) (i : Int) :
    Calls Try.prog 64 #[.agg #[.slice oa K oc, .slice fa n fc], .int .i64 i] w (RefGive P K (giveOut O fl i) w) := by
  unfold giveOut
  rw [hw.len]
  cases hq : inB K i with
  | false =>
    rw [if_neg (by simp)]
    exact refGive_arg h i hq
  | true =>
    rw [if_pos rfl]
    obtain ⟨k, rfl, hk⟩ := inB_nat hq
    rw [Int.toNat_natCast]
    obtain ⟨x, hx, _⟩ := hw.ofK hk
    by_cases z : x = -1
    · subst z
      rw [if_pos hx]
      exact refGive_none h k hk hx
    · rw [if_neg (fun q => z (by rw [hx] at q; exact Option.some.inj q))]
      exact refGive_ok h k hk hK (by have := hw.few; have := h.free.len; omega) hx z
end
end Go.Proofs.Ytijkigibcpgciaa.Pl
