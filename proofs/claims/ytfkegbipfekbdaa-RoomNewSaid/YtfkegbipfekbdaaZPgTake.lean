import Derived.Test.YtfkegbipfekbdaaZPlNum
/-
  Package page: Take, Give, Own, whatever comes in; and of a Page that is nil.
-/
namespace Go.Proofs.Ytfkegbipfekbdaa.Pg
open Go.ChangeShapes Go.WideShapes Go.ChangeAt Go.RowKit
set_option maxRecDepth 100000

section
variable {w : World} {p b m : Nat} {X : List Int}
/-! ### Take -/
theorem pageTake_neg (o : Int) (ho : o < 0) (w : World) (p : Nat) : Calls Try.prog 62 #[.pointer (some ⟨p, 0, none⟩), .int .i64 o] w fun e w' => e = .returned (.tuple #[.int .i64 0, .int .i64 1]) ∧ w = w' := by
  have d0 : decide (o < 0) = true := decide_eq_true ho
  go_enter Try.func62, Try.ntmps62
  go_wp2
  go_ret2
  exact ⟨rfl, rfl⟩
theorem pageTake_full (h : Pm w p b m X) (o : Int) (ho : 0 ≤ o) (hf : holeOf X = -1) : Calls Try.prog 62 #[.pointer (some ⟨p, 0, none⟩), .int .i64 o] w fun e w' => e = .returned (.tuple #[.int .i64 0, .int .i64 5]) ∧ Below w.heap.size w w' := by
  have d0 : decide (o < 0) = false := decide_eq_false (by omega)
  have H := Lib.hid (least_any (n := (X.length : Int)) h.bm)
  unfold holeOf at hf
  rw [hf] at H
  have c0 := h.c0
  have c1 := h.c1
  clear h hf
  go_enter Try.func62, Try.ntmps62
  go_wp2_with fail
  refine H.out.mono ?_
  rintro e w' ⟨rfl, hb⟩
  have HB := Lib.hid hb
  clear hb
  go_wp2
  go_ret2
  exact ⟨rfl, HB.out⟩
theorem pageTake_at (h : Pm w p b m X) (o : Int) (ho : 0 ≤ o) (hm : o ≤ 9223372036854775807) (i : Nat) (hf : holeOf X = (i : Int)) (hi : i < X.length) (hx : ow X i = -1) :
    Calls Try.prog 62 #[.pointer (some ⟨p, 0, none⟩), .int .i64 o] w (PgEnds (.tuple #[.int .i64 (i : Int), .int .i64 0]) p b m (X.set i o) w) := by
  have d0 : decide (o < 0) = false := decide_eq_false (by omega)
  have H := Lib.hid (least_any (n := (X.length : Int)) h.bm)
  unfold holeOf at hf
  rw [hf] at H
  have c0 := h.c0
  have c1 := h.c1
  have dn : ((i : Int) == -1) = false := by simp
  have HP := Lib.hid h
  have lp := h.lt
  have ll := h.l2
  have hne : bt (usedL X) i ≠ true := by rw [used_bt, hx]; decide
  have hil : i < (usedL X).length := by rw [used_len]; exact hi
  have hs := setL_flip hil hne
  have HX := Lib.hid hx
  clear h hf hx
  go_enter Try.func62, Try.ntmps62
  go_wp2_with fail
  refine H.out.mono ?_
  rintro e w1 ⟨rfl, hb⟩
  have P1 := Lib.hid (HP.out.below hb)
  have c0' := P1.out.c0
  have c1' := P1.out.c1
  have HB := Lib.hid hb
  have H2 : Hid (Calls Try.prog 88 #[.agg #[.pointer (some ⟨b, 0, none⟩), .int .i64 (X.length : Int)], .int .i64 (i : Int), .bool true] w1 (SetEnds b ((usedL X).set i true) 0 w1)) := Lib.hid (by
    have := mark_any (n := (X.length : Int)) P1.out.bm (i : Int) true
    rwa [hs.1, hs.2] at this)
  clear hb c0 c1 H HP hs hne
  go_wp2_with fail
  refine H2.out.mono ?_
  rintro e w2 ⟨rfl, r2, b2⟩
  have P2 : Hid (w2.cell? ⟨p, 0, none⟩ = some (.pointer (some ⟨b, 0, none⟩)) ∧ w2.cell? ⟨p, 1, none⟩ = some (.int .i64 (X.length : Int)) ∧ w2.cell? ⟨p, 2, none⟩ = some (.map (some m))) :=
    Lib.hid ⟨(b2.cell (p := ⟨p, 0, none⟩) P1.out.lt P1.out.pb).trans P1.out.c0, (b2.cell (p := ⟨p, 1, none⟩) P1.out.lt P1.out.pb).trans P1.out.c1, (b2.cell (p := ⟨p, 2, none⟩) P1.out.lt P1.out.pb).trans P1.out.c2⟩
  have c2' := P2.out.2.2
  obtain ⟨w3, hr, o3, b3⟩ := (P1.out.om.but b2 (Ne.symm P1.out.ne)).put hi ll ho hm
  have HR := Lib.hid hr
  have HE : Hid (Pm w3 p b m (X.set i o) ∧ But (fun i => i = b ∨ i = m) w w3) := Lib.hid (by
    have lt2 : p < w2.heap.size := lt_of_cell (p := ⟨p, 0, none⟩) P2.out.1
    refine ⟨⟨(b3.cell (p := ⟨p, 0, none⟩) lt2 P1.out.pm).trans P2.out.1, ?_, (b3.cell (p := ⟨p, 2, none⟩) lt2 P1.out.pm).trans P2.out.2.2, ?_, o3, P1.out.pn.set (by omega), P1.out.pb, P1.out.pm, P1.out.ne⟩, ?_⟩
    · rw [List.length_set]
      exact (b3.cell (p := ⟨p, 1, none⟩) lt2 P1.out.pm).trans P2.out.2.1
    · rw [used_set, show (o != -1) = true by simp; omega]
      exact r2.but b3 P1.out.ne
    · exact (Below.but HB.out _).trans ((b2.mono fun _ _ q => Or.inl q).then b3 fun _ _ q => Or.inr q))
  clear r2 b2 o3 b3 hr c0' c1' H2 P1 P2 HB HX
  go_wp2_with (at_mapUpdate; refine wpList_mapUpdate_run rfl _ _ _ _ rfl rfl rfl rfl HR.out ?_)
  go_ret2
  exact ⟨rfl, HE.out.1, HE.out.2⟩
theorem pageTake_any (h : Pm w p b m X) (o : Int) (hm : o ≤ 9223372036854775807) : Calls Try.prog 62 #[.pointer (some ⟨p, 0, none⟩), .int .i64 o] w (PgEnds (.tuple #[.int .i64 (takeA X o), .int .i64 (takeE X o)]) p b m (takeX X o) w) := by
  by_cases ho : o < 0
  · obtain ⟨e1, e2, e3⟩ := take_neg (X := X) ho
    rw [e1, e2, e3]
    exact (pageTake_neg o ho w p).mono fun e w' ⟨he, hw⟩ => ⟨he, hw ▸ h, hw ▸ But.refl _ _⟩
  · have ho : 0 ≤ o := by omega
    rcases hole_cases X with ⟨hf, _⟩ | ⟨i, hf, hi, hx, _⟩
    · obtain ⟨e1, e2, e3⟩ := take_full ho hf
      rw [e1, e2, e3]
      exact (pageTake_full h o ho hf).mono fun e w' ⟨he, hb⟩ => ⟨he, h.below hb, Below.but hb _⟩
    · obtain ⟨e1, e2, e3⟩ := take_at ho hf
      rw [e1, e2, e3]
      exact pageTake_at h o ho hm i hf hi hx

/-! ### Give -/
theorem pageGive_bad (h : Pm w p b m X) (n z : Int) (hL : setL (usedL X) n false = usedL X) (hE : setE (usedL X) n false = z) (hz : z ≠ 0) :
    Calls Try.prog 74 #[.pointer (some ⟨p, 0, none⟩), .int .i64 n] w (PgEnds (.int .i64 z) p b m X w) := by
  have H := Lib.hid (mark_any (n := (X.length : Int)) h.bm n false)
  rw [hL, hE] at H
  have c0 := h.c0
  have c1 := h.c1
  have dz : (z != 0) = true := by simpa using hz
  have HP := Lib.hid h
  clear h hL hE hz
  go_enter Try.func74, Try.ntmps74
  go_wp2_with fail
  refine H.out.mono ?_
  rintro e w1 ⟨rfl, r1, b1⟩
  have HE : Hid (Pm w1 p b m X ∧ But (fun i => i = b ∨ i = m) w w1) := Lib.hid (by
    have P := HP.out
    exact ⟨⟨(b1.cell (p := ⟨p, 0, none⟩) P.lt P.pb).trans P.c0, (b1.cell (p := ⟨p, 1, none⟩) P.lt P.pb).trans P.c1, (b1.cell (p := ⟨p, 2, none⟩) P.lt P.pb).trans P.c2, r1, P.om.but b1 (Ne.symm P.ne), P.pn, P.pb, P.pm, P.ne⟩, b1.mono fun _ _ q => Or.inl q⟩)
  clear r1 b1 HP H
  go_wp2
  go_ret
  exact ⟨rfl, HE.out.1, HE.out.2⟩
theorem pageGive_at (h : Pm w p b m X) (k : Nat) (hk : k < X.length) (hx : ow X k ≠ -1) :
    Calls Try.prog 74 #[.pointer (some ⟨p, 0, none⟩), .int .i64 (k : Int)] w (PgEnds (.int .i64 0) p b m (X.set k (-1)) w) := by
  have hne : bt (usedL X) k ≠ false := by rw [used_bt]; simpa using hx
  have hkl : k < (usedL X).length := by rw [used_len]; exact hk
  have hs := setL_flip hkl hne
  have H := Lib.hid (mark_any (n := (X.length : Int)) h.bm (k : Int) false)
  rw [hs.1, hs.2] at H
  have c0 := h.c0
  have c1 := h.c1
  have HP := Lib.hid h
  have ll := h.l2
  have HX := Lib.hid hx
  clear h hs hne hkl hx
  go_enter Try.func74, Try.ntmps74
  go_wp2_with fail
  refine H.out.mono ?_
  rintro e w2 ⟨rfl, r2, b2⟩
  have P2 : Hid (w2.cell? ⟨p, 0, none⟩ = some (.pointer (some ⟨b, 0, none⟩)) ∧ w2.cell? ⟨p, 1, none⟩ = some (.int .i64 (X.length : Int)) ∧ w2.cell? ⟨p, 2, none⟩ = some (.map (some m))) :=
    Lib.hid ⟨(b2.cell (p := ⟨p, 0, none⟩) HP.out.lt HP.out.pb).trans HP.out.c0, (b2.cell (p := ⟨p, 1, none⟩) HP.out.lt HP.out.pb).trans HP.out.c1, (b2.cell (p := ⟨p, 2, none⟩) HP.out.lt HP.out.pb).trans HP.out.c2⟩
  have c2' := P2.out.2.2
  have HD : Hid (∀ ty, ∃ w3, (Builtin.delete_ #[114, 3] ty #[.map (some m), .int .i64 (k : Int)]).run Try.prog w2 = .ok (.tuple #[]) w3 ∧ Hid (Pm w3 p b m (X.set k (-1)) ∧ But (fun i => i = b ∨ i = m) w w3)) := Lib.hid (fun ty => by
    obtain ⟨w3, hr, o3, b3⟩ := (HP.out.om.but b2 (Ne.symm HP.out.ne)).del hk ll HX.out ty
    have lt2 : p < w2.heap.size := lt_of_cell (p := ⟨p, 0, none⟩) P2.out.1
    refine ⟨w3, hr, Lib.hid ⟨⟨(b3.cell (p := ⟨p, 0, none⟩) lt2 HP.out.pm).trans P2.out.1, ?_, (b3.cell (p := ⟨p, 2, none⟩) lt2 HP.out.pm).trans P2.out.2.2, ?_, o3, HP.out.pn.set (by omega), HP.out.pb, HP.out.pm, HP.out.ne⟩, ?_⟩⟩
    · rw [List.length_set]
      exact (b3.cell (p := ⟨p, 1, none⟩) lt2 HP.out.pm).trans P2.out.2.1
    · rw [used_set]
      exact r2.but b3 HP.out.ne
    · exact (b2.mono fun _ _ q => Or.inl q).then b3 fun _ _ q => Or.inr q)
  clear r2 b2 c0 c1 H HP P2 HX
  go_wp2_with (at_delete; refine wpList_delete_run rfl _ _ _ _ rfl rfl rfl HD.out ?_; intro w3 HE)
  go_ret
  exact ⟨rfl, HE.out.1, HE.out.2⟩
theorem pageGive_any (h : Pm w p b m X) (n : Int) : Calls Try.prog 74 #[.pointer (some ⟨p, 0, none⟩), .int .i64 n] w (PgEnds (.int .i64 (giveE X n)) p b m (giveX X n) w) := by
  cases q : inP X n with
  | false =>
    obtain ⟨e1, e2⟩ := give_off q
    rw [e1, e2]
    have hs := setL_off (is := false) ((used_inB (X := X) n).trans q)
    exact pageGive_bad h n 1 hs.1 hs.2 (by omega)
  | true =>
    obtain ⟨k, rfl, hk⟩ := inP_in q
    by_cases hx : ow X k = -1
    · obtain ⟨e1, e2⟩ := give_free hk hx
      rw [e1, e2]
      have hb : bt (usedL X) k = false := by rw [used_bt, hx]; rfl
      have hs := setL_same (L := usedL X) (k := k) (by rw [used_len]; exact hk)
      rw [hb] at hs
      exact pageGive_bad h (k : Int) 9 hs.1 hs.2 (by omega)
    · obtain ⟨e1, e2⟩ := give_at hk hx
      rw [e1, e2]
      exact pageGive_at h k hk hx

/-! ### Own -/
theorem pageOwn_off (h : Pm w p b m X) (n o : Int) (hn : inP X n = false) : Calls Try.prog 75 #[.pointer (some ⟨p, 0, none⟩), .int .i64 n, .int .i64 o] w (IB 1 w) := by
  have H := Lib.hid (markHas_any n X.length (.pointer (some ⟨b, 0, none⟩)) w)
  unfold inP at hn
  rw [hn] at H
  have c0 := h.c0
  have c1 := h.c1
  clear h hn
  go_enter Try.func75, Try.ntmps75
  go_wp2_with fail
  refine H.out.mono ?_
  rintro e w' ⟨rfl, hb⟩
  have HB := Lib.hid hb
  clear hb
  go_wp2
  go_ret
  exact ⟨rfl, HB.out⟩
theorem pageOwn_neg (h : Pm w p b m X) (n o : Int) (hn : inP X n = true) (ho : o < 0) : Calls Try.prog 75 #[.pointer (some ⟨p, 0, none⟩), .int .i64 n, .int .i64 o] w (IB 1 w) := by
  have H := Lib.hid (markHas_any n X.length (.pointer (some ⟨b, 0, none⟩)) w)
  unfold inP at hn
  rw [hn] at H
  have d0 : decide (o < 0) = true := decide_eq_true ho
  have c0 := h.c0
  have c1 := h.c1
  clear h hn
  go_enter Try.func75, Try.ntmps75
  go_wp2_with fail
  refine H.out.mono ?_
  rintro e w' ⟨rfl, hb⟩
  have HB := Lib.hid hb
  clear hb
  go_wp2
  go_ret
  exact ⟨rfl, HB.out⟩
theorem pageOwn_free (h : Pm w p b m X) (k : Nat) (o : Int) (hk : k < X.length) (ho : 0 ≤ o) (hx : ow X k = -1) : Calls Try.prog 75 #[.pointer (some ⟨p, 0, none⟩), .int .i64 (k : Int), .int .i64 o] w (IB 9 w) := by
  have H := Lib.hid (markHas_any (k : Int) X.length (.pointer (some ⟨b, 0, none⟩)) w)
  have hn := inP_nat hk
  unfold inP at hn
  rw [hn] at H
  have ll := h.l2
  have HO : Hid (∀ w', Below w.heap.size w w' → Calls Try.prog 76 #[.pointer (some ⟨p, 0, none⟩), .int .i64 (k : Int)] w' (R1 (-1) w')) := Lib.hid (fun w' hb => by
    have := owner_any (h.below hb) (k : Int) (by omega)
    rwa [ownerOf_nat hk, hx] at this)
  have d0 : decide (o < 0) = false := decide_eq_false (by omega)
  have c0 := h.c0
  have c1 := h.c1
  clear h hn hx
  go_enter Try.func75, Try.ntmps75
  go_wp2_with fail
  refine H.out.mono ?_
  rintro e w1 ⟨rfl, hb⟩
  have HB := Lib.hid hb
  clear hb
  go_wp2_with fail
  refine (HO.out w1 HB.out).mono ?_
  rintro e w2 ⟨rfl, rfl⟩
  go_wp2
  go_ret
  exact ⟨rfl, HB.out⟩
theorem pageOwn_at (h : Pm w p b m X) (k : Nat) (o : Int) (hk : k < X.length) (ho : 0 ≤ o) (hm : o ≤ 9223372036854775807) (hx : ow X k ≠ -1) :
    Calls Try.prog 75 #[.pointer (some ⟨p, 0, none⟩), .int .i64 (k : Int), .int .i64 o] w (PgEnds (.int .i64 0) p b m (X.set k o) w) := by
  have H := Lib.hid (markHas_any (k : Int) X.length (.pointer (some ⟨b, 0, none⟩)) w)
  have hn := inP_nat hk
  unfold inP at hn
  rw [hn] at H
  have ll := h.l2
  have HP := Lib.hid h
  have HO : Hid (∀ w', Below w.heap.size w w' → Calls Try.prog 76 #[.pointer (some ⟨p, 0, none⟩), .int .i64 (k : Int)] w' (R1 (ow X k) w')) := Lib.hid (fun w' hb => by
    have := owner_any (h.below hb) (k : Int) (by omega)
    rwa [ownerOf_nat hk] at this)
  have d0 : decide (o < 0) = false := decide_eq_false (by omega)
  have dx : (ow X k == -1) = false := by simpa using hx
  have HX := Lib.hid hx
  generalize ow X k = x at HO dx
  have c0 := h.c0
  have c1 := h.c1
  clear h hn hx
  go_enter Try.func75, Try.ntmps75
  go_wp2_with fail
  refine H.out.mono ?_
  rintro e w1 ⟨rfl, hb⟩
  have HB := Lib.hid hb
  clear hb
  go_wp2_with fail
  refine (HO.out w1 HB.out).mono ?_
  rintro e w2 ⟨rfl, rfl⟩
  have P1 := Lib.hid (HP.out.below HB.out)
  have c2' := P1.out.c2
  obtain ⟨w3, hr, o3, b3⟩ := P1.out.om.put hk ll ho hm
  have HR := Lib.hid hr
  have HE : Hid (Pm w3 p b m (X.set k o) ∧ But (fun i => i = b ∨ i = m) w w3) := Lib.hid (by
    have P := P1.out
    refine ⟨⟨(b3.cell (p := ⟨p, 0, none⟩) P.lt P.pm).trans P.c0, ?_, (b3.cell (p := ⟨p, 2, none⟩) P.lt P.pm).trans P.c2, ?_, o3, P.pn.set (by omega), P.pb, P.pm, P.ne⟩, ?_⟩
    · rw [List.length_set]
      exact (b3.cell (p := ⟨p, 1, none⟩) P.lt P.pm).trans P.c1
    · have e : usedL (X.set k o) = usedL X := by
        rw [used_set, show (o != -1) = true by simp; omega]
        have hs := setL_same (L := usedL X) (k := k) (by rw [used_len]; exact hk)
        have hb : bt (usedL X) k = true := by rw [used_bt]; simpa using HX.out
        rw [hb] at hs
        have := hs.1
        simpa [setL, used_inB, inP_nat hk] using this
      rw [e]
      exact P.bm.but b3 P.ne
    · exact (Below.but HB.out _).trans (b3.mono fun _ _ q => Or.inr q))
  clear o3 b3 hr H HO HP P1 HB HX
  go_wp2_with (at_mapUpdate; refine wpList_mapUpdate_run rfl _ _ _ _ rfl rfl rfl rfl HR.out ?_)
  go_ret
  exact ⟨rfl, HE.out.1, HE.out.2⟩
theorem pageOwn_any (h : Pm w p b m X) (n o : Int) (hm : o ≤ 9223372036854775807) : Calls Try.prog 75 #[.pointer (some ⟨p, 0, none⟩), .int .i64 n, .int .i64 o] w (PgEnds (.int .i64 (ownE X n o)) p b m (ownX X n o) w) := by
  cases q : inP X n with
  | false =>
    obtain ⟨e1, e2⟩ := own_off (o := o) (Or.inl q)
    rw [e1, e2]
    exact (pageOwn_off h n o q).mono fun e w' ⟨he, hb⟩ => ⟨he, h.below hb, Below.but hb _⟩
  | true =>
    by_cases ho : o < 0
    · obtain ⟨e1, e2⟩ := own_off (X := X) (n := n) (Or.inr ho)
      rw [e1, e2]
      exact (pageOwn_neg h n o q ho).mono fun e w' ⟨he, hb⟩ => ⟨he, h.below hb, Below.but hb _⟩
    · have ho : 0 ≤ o := by omega
      obtain ⟨k, rfl, hk⟩ := inP_in q
      by_cases hx : ow X k = -1
      · obtain ⟨e1, e2⟩ := own_free hk ho hx
        rw [e1, e2]
        exact (pageOwn_free h k o hk ho hx).mono fun e w' ⟨he, hb⟩ => ⟨he, h.below hb, Below.but hb _⟩
      · obtain ⟨e1, e2⟩ := own_at hk ho hx
        rw [e1, e2]
        exact pageOwn_at h k o hk ho hm hx
end

/-! ### Of a Page that is nil -/
theorem pageTake_nil (o : Int) (w : World) : Calls Try.prog 62 #[.pointer none, .int .i64 o] w fun e w' => e = .returned (.tuple #[.int .i64 0, .int .i64 1]) ∧ w = w' := by
  go_enter Try.func62, Try.ntmps62
  go_wp2
  go_ret2
  exact ⟨rfl, rfl⟩
theorem pageGive_nil (n : Int) (w : World) : Calls Try.prog 74 #[.pointer none, .int .i64 n] w (R1 1 w) := by
  go_enter Try.func74, Try.ntmps74
  go_wp2
  go_ret
  exact ⟨rfl, rfl⟩
theorem pageOwn_nil (n o : Int) (w : World) : Calls Try.prog 75 #[.pointer none, .int .i64 n, .int .i64 o] w (R1 1 w) := by
  go_enter Try.func75, Try.ntmps75
  go_wp2
  go_ret
  exact ⟨rfl, rfl⟩
end Go.Proofs.Ytfkegbipfekbdaa.Pg
