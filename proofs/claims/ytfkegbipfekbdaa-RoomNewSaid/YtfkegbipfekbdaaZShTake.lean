import Derived.Test.YtfkegbipfekbdaaZShGrow
/-
  Package shelf: Take, met by a contract.
-/
namespace Go.Proofs.Ytfkegbipfekbdaa.Sh
open Go.ChangeShapes Go.WideShapes Go.ChangeAt Go.RowKit
set_option maxRecDepth 100000

section
variable {K B : Nat} {c : Int} {t : Shl} {n o : Int} {X : List Int} {i : Nat}
theorem Sw.here (h : Sw K c B t) (hX : (n, X) ∈ t.ps) : n ∈ t.op ↔ Pg.holeOf X ≠ -1 := by
  rw [h.opm n]
  constructor
  · rintro ⟨Z, hZ, hh⟩
    rw [same_page h.nod hX hZ]; exact hh
  · intro hh
    exact ⟨X, hX, hh⟩
theorem Sw.fill (h : Sw K c B t) (hX : (n, X) ∈ t.ps) (hi : Pg.holeOf X = (i : Int)) (h0 : 0 ≤ o) (h1 : o ≤ 9223372036854775807) (hu : ∀ m Z, (m, Z) ∈ t.ps → m ≠ n → 1 ≤ Pg.usedN Z) :
    Sw K c B (fillS t n o X) ∧ Uw (fillS t n o X) ∧ usedS (fillS t n o X).ps = usedS t.ps + 1 := by
  have ha := Pg.take_at h0 hi
  have hlt : i < X.length ∧ Pg.ow X i = -1 := by
    rcases Pg.hole_cases X with ⟨q, _⟩ | ⟨j, q, q1, q2, _⟩
    · omega
    · have : j = i := by omega
      subst this
      exact ⟨q1, q2⟩
  have hn : Pg.usedN (Pg.takeX X o) = Pg.usedN X + 1 := by rw [ha.1]; exact Pg.usedN_fill hlt.1 hlt.2 h0
  have hopn : n ∈ t.op := (h.here hX).2 (by omega)
  refine ⟨?_, ?_, ?_⟩
  · unfold fillS
    refine h.turn hX (by rw [Pg.take_len]; exact h.len _ _ hX) ((h.pn _ _ hX).take h1) ?_ fun m => ?_
    · split
      · exact h.opn.erase _
      · exact h.opn
    · split
      · rename_i hf
        rw [h.opn.mem_erase_iff]
        constructor
        · rintro ⟨q1, q2⟩; exact Or.inr ⟨q1, q2⟩
        · rintro (⟨_, q⟩ | q)
          · exact absurd hf q
          · exact q
      · rename_i hf
        constructor
        · intro q
          by_cases e : m = n
          · exact Or.inl ⟨e, hf⟩
          · exact Or.inr ⟨e, q⟩
        · rintro (⟨e, _⟩ | ⟨_, q⟩)
          · rw [e]; exact hopn
          · exact q
  · intro m Z hm
    rcases mem_set.1 hm with ⟨_, rfl, _⟩ | ⟨q1, q2⟩
    · omega
    · exact hu m Z q2 q1
  · have := used_set (Y := Pg.takeX X o) h.nod hX
    show usedS (setP t.ps n (Pg.takeX X o)) = _
    omega
end

section
variable {w : World} {x : Fx} {A : Adr} {lab : Lab} {s : Shl}
theorem take_neg (h : Sm w x A lab s) (o : Int) (ho : o < 0) : Calls Try.prog 38 #[.pointer (some ⟨x.s, 0, none⟩), .int .i64 o] w (ShEnds (.tuple #[.int .i64 0, .int .i64 0, .int .i64 1]) x lab s w) := by
  have H := Lib.hid (h.same (Below.refl _ _))
  have d1 : decide (o < 0) = true := by simpa using ho
  clear h ho
  go_enter Try.func38, Try.ntmps38
  go_wp2
  go_ret3
  exact ⟨rfl, H.out⟩
theorem take_out (h : Sm w x A lab s) (o : Int) (ho : 0 ≤ o) (hop : s.op = []) (hfl : s.fl = []) : Calls Try.prog 38 #[.pointer (some ⟨x.s, 0, none⟩), .int .i64 o] w (ShEnds (.tuple #[.int .i64 0, .int .i64 0, .int .i64 5]) x lab s w) := by
  have HO := Lib.hid (open_any h.sr)
  rw [hop] at HO
  have hs := h.sr
  rw [hfl] at hs
  have HG := Lib.hid (grow_none hs h.sw.c0 h.sw.c1)
  have HN : Hid (∀ w', Sr w' x A lab s.O [] s.ps s.op (usedS s.ps : Int) → But (fun i => lab i ≠ none) w w' → Nxt x lab s w w') := Lib.hid fun w' r b => by
    rw [← hfl] at r
    exact ⟨A, lab, ⟨r, h.sw, h.uw⟩, fun _ _ => rfl, b⟩
  have d1 : decide (o < 0) = false := by simp; omega
  clear h ho hs hop hfl
  go_enter Try.func38, Try.ntmps38
  go_wp2_with fail
  refine HO.out.mono ?_
  rintro e w' ⟨rfl, rfl⟩
  go_wp2_with fail
  refine HG.out.mono ?_
  rintro e w' ⟨rfl, r, b⟩
  have HZ := Lib.hid (HN.out _ r b)
  clear r b
  go_wp2
  go_ret3
  exact ⟨rfl, HZ.out⟩
set_option maxHeartbeats 1000000 in
/-- Of an open page. -/
theorem take_open (h : Sm w x A lab s) (o : Int) (h0 : 0 ≤ o) (h1 : o ≤ 9223372036854775807) {n : Int} {r : List Int} (hop : s.op = n :: r) {X : List Int} (hx : (n, X) ∈ s.ps) {i : Nat} (hhi : Pg.holeOf X = (i : Int)) :
    Calls Try.prog 38 #[.pointer (some ⟨x.s, 0, none⟩), .int .i64 o] w (ShEnds (.tuple #[.int .i64 n, .int .i64 (i : Int), .int .i64 0]) x lab (fillS s n o X) w) := by
  obtain ⟨t, rfl⟩ : ∃ t, t = s := ⟨_, rfl⟩
  have HO := Lib.hid (open_any h.sr)
  rw [hop, List.length_cons] at HO
  obtain ⟨u, hu⟩ : ∃ u, u = usedS t.ps := ⟨_, rfl⟩
  have H1 : Hid (Sr w x A lab t.O t.fl t.ps t.op (u : Int)) := Lib.hid (by rw [hu]; exact h.sr)
  have hh : t.op.headD (-1) = n := by rw [hop]; rfl
  have hX := Lib.hid hx
  have hi := Lib.hid hhi
  have ho0 := Lib.hid h0
  have ho1 := Lib.hid h1
  obtain ⟨k, nk, hkK, _⟩ := h.sw.own n (mem_nums hx)
  have k2 := h.sr.pool.k2
  have NK := Lib.hid nk
  have kn := Lib.hid hkK
  have nfit : Hid (Pl.Fit n) := Lib.hid ⟨by omega, by omega⟩
  have ub : Hid (u ≤ 1000000) := Lib.hid (by
    have q1 := h.sw.used_le
    have q2 := h.sr.b2
    have q3 := Nat.mul_le_mul k2 q2
    omega)
  obtain ⟨f1, f2, f3⟩ := h.sw.fill hx hhi h0 h1 (fun m Z hm _ => h.uw m Z hm)
  have FIN : Hid (∀ w', Sr w' x A lab t.O t.fl (setP t.ps n (Pg.takeX X o)) (if Pg.holeOf (Pg.takeX X o) = -1 then t.op.erase n else t.op) ((u : Int) + 1) → But (fun i => lab i ≠ none) w w' → Nxt x lab (fillS t n o X) w w') := Lib.hid fun w' r b => by
    refine ⟨A, lab, ⟨?_, f1, f2⟩, fun _ _ => rfl, b⟩
    rw [f3, ← hu]
    exact r
  have d1 : decide (o < 0) = false := by simp; omega
  obtain ⟨y, hy⟩ : ∃ y : Int, y = ((r.length + 1 : Nat) : Int) := ⟨_, rfl⟩
  rw [← hy] at HO
  have d2 : (y == 0) = false := by simp; omega
  clear h h0 h1 hop hx hhi f1 f2 f3 hu hkK k2 hy nk
  go_enter Try.func38, Try.ntmps38
  go_wp2_with fail
  refine HO.out.mono ?_
  rintro e w' ⟨rfl, rfl⟩
  have HF := Lib.hid (Rn.rgFirst H1.out.ring 0)
  rw [Rop.first, hh] at HF
  have k14 := H1.out.cl.k4
  have k13 := H1.out.cl.k3
  have hl1 := H1.out.map.look (n := n) nfit.out
  rw [ptr_at hX.out] at hl1
  have HT := Lib.hid (Pg.pageTake_any (H1.out.pgs n X hX.out) o ho1.out)
  have ta := Pg.take_at ho0.out hi.out
  rw [ta.2.1, ta.2.2] at HT
  have ne0 : ((0 : Int) != 0) = false := rfl
  clear ta
  go_wp2_with fail
  refine HF.out.mono ?_
  rintro e w' ⟨rfl, rfl⟩
  go_wp2_with fail
  refine HT.out.mono ?_
  rintro e w2 ⟨rfl, r2, b2⟩
  obtain ⟨H2, B2⟩ := H1.out.page hX.out r2 b2
  obtain ⟨H3, B3⟩ := H2.count ((u : Int) + 1)
  have k25 := H2.cl.k5
  have f25 := H2.cl.f5
  have hwr : IntKind.i64.wrap ((u : Int) + 1) = (u : Int) + 1 := IntWalk.i64_in _ (by have := ub.out; omega)
  have H3' := Lib.hid H3
  have B3' := Lib.hid (B2.trans B3)
  have k33 := H3.cl.k3
  have hX3 : (n, Pg.takeX X o) ∈ setP t.ps n (Pg.takeX X o) := mem_set.2 (Or.inl ⟨rfl, rfl, mem_nums hX.out⟩)
  have hl3 := H3.map.look (n := n) nfit.out
  rw [ptr_at hX3] at hl3
  have HU := Lib.hid (Pg.full_any (H3.pgs n _ hX3))
  clear H2 B2 H3 B3 r2 b2 hl1 k14 k13 HF HT hX3
  obtain ⟨Y, hY⟩ : ∃ Y, Y = Pg.takeX X o := ⟨_, rfl⟩
  rw [← hY] at H3' HU
  have HY := Lib.hid hY
  clear hY
  by_cases hf : Pg.holeOf Y = -1
  · have e1 : (Pg.holeOf Y == -1) = true := by rw [hf]; rfl
    rw [e1] at HU
    clear e1
    go_wp2_with fail
    refine HU.out.mono ?_
    rintro e w4 ⟨rfl, b4⟩
    have H4 := Lib.hid (H3'.out.below b4)
    have k44 := H4.out.cl.k4
    have HD := Lib.hid (Rop.drop H4.out.ring kn.out)
    rw [← NK.out] at HD
    have B4' := Lib.hid (B3'.out.trans (Below.but b4 _))
    clear b4 B3' H3' hl3 k33 k25 f25
    go_wp2_with fail
    refine HD.out.mono ?_
    rintro e w5 ⟨⟨z, rfl⟩, r5, b5⟩
    obtain ⟨H5, B5⟩ := H4.out.turn r5 b5
    have HE : Hid (Nxt x lab (fillS t n o X) w w5) := Lib.hid (FIN.out w5 (by rw [← HY.out, if_pos hf]; exact H5) (B4'.out.trans B5))
    clear H5 B5 r5 b5
    go_wp2
    go_ret3
    exact ⟨rfl, HE.out⟩
  · have e1 : (Pg.holeOf Y == -1) = false := by simpa using hf
    rw [e1] at HU
    clear e1
    go_wp2_with fail
    refine HU.out.mono ?_
    rintro e w4 ⟨rfl, b4⟩
    have HE : Hid (Nxt x lab (fillS t n o X) w w4) := Lib.hid (FIN.out w4 (by rw [← HY.out, if_neg hf]; exact H3'.out.below b4) (B3'.out.trans (Below.but b4 _)))
    clear b4 B3' H3' hl3 k33 k25 f25
    go_wp2
    go_ret3
    exact ⟨rfl, HE.out⟩
set_option maxHeartbeats 1000000 in
/-- Of a page that is taken of the pool. -/
theorem take_grow (h : Sm w x A lab s) (o : Int) (h0 : 0 ≤ o) (h1 : o ≤ 9223372036854775807) {k : Nat} {r : List Int} (hop : s.op = []) (hfl : s.fl = (k : Int) :: r) :
    Calls Try.prog 38 #[.pointer (some ⟨x.s, 0, none⟩), .int .i64 o] w (ShEnds (.tuple #[.int .i64 (k : Int), .int .i64 ((0 : Nat) : Int), .int .i64 0]) x lab (fillS (growS x.c x.B s) (k : Int) o (List.replicate x.B (-1))) w) := by
  obtain ⟨n, nk⟩ : ∃ n : Int, n = (k : Int) := ⟨_, rfl⟩
  obtain ⟨X, eX⟩ : ∃ X : List Int, X = List.replicate x.B (-1) := ⟨_, rfl⟩
  have HO := Lib.hid (open_any h.sr)
  rw [hop] at HO
  have hs := h.sr
  have k2 := hs.pool.k2
  rw [hfl] at hs
  obtain ⟨g1, g2, g3⟩ := h.sw.grow hfl hs.b1
  have HG := Lib.hid (grow_ok hs h.sw.c0 h.sw.c1 g1 (by rw [hop]; simp) g2 (Nat.le_trans h.sw.few k2))
  obtain ⟨u, hu⟩ : ∃ u, u = usedS s.ps := ⟨_, rfl⟩
  obtain ⟨t, et⟩ : ∃ t : Shl, t = ⟨s.O.set k x.c, r, s.ps ++ [((k : Int), List.replicate x.B (-1))], (k : Int) :: s.op⟩ := ⟨_, rfl⟩
  have eg : growS x.c x.B s = t := by unfold growS; rw [hfl, et]; rfl
  rw [← et] at g3
  have hx : (n, X) ∈ t.ps := by rw [et, nk, eX]; exact List.mem_append_right _ (by simp)
  have hhi : Pg.holeOf X = ((0 : Nat) : Int) := by rw [eX]; exact Pg.hole_at (by rw [List.length_replicate]; have := hs.b1; omega) (by unfold Pg.ow; rw [List.getElem?_replicate]; split <;> rfl) (fun j hj => by omega)
  have hus : usedS t.ps = usedS s.ps := by
    rw [et]
    show usedS (s.ps ++ [((k : Int), List.replicate x.B (-1))]) = _
    rw [used_app, show Pg.usedN (List.replicate x.B (-1)) = 0 by unfold Pg.usedN; rw [Pg.used_new]; simp [List.count_replicate]]
    rfl
  have UO : ∀ m Z, (m, Z) ∈ t.ps → m ≠ n → 1 ≤ Pg.usedN Z := fun m Z hm hne => by
    rw [et] at hm
    rcases List.mem_append.1 hm with q | q
    · exact h.uw m Z q
    · simp at q
      exact absurd (q.1.trans nk.symm) hne
  have hh : t.op.headD (-1) = n := by rw [et, nk]; rfl
  have ub : Hid (u ≤ 1000000) := Lib.hid (by
    have q1 := h.sw.used_le
    have q2 := hs.b2
    have q3 := Nat.mul_le_mul k2 q2
    omega)
  have hX := Lib.hid hx
  have hi := Lib.hid hhi
  have ho0 := Lib.hid h0
  have ho1 := Lib.hid h1
  have kn := Lib.hid g2
  have nfit : Hid (Pl.Fit n) := Lib.hid ⟨by omega, by omega⟩
  obtain ⟨f1, f2, f3⟩ := g3.fill hx hhi h0 h1 UO
  have FIN0 : Hid (∀ A1 lab1 w', (∀ i, i < w.heap.size → lab1 i = lab i) → Sr w' x A1 lab1 t.O t.fl (setP t.ps n (Pg.takeX X o)) (if Pg.holeOf (Pg.takeX X o) = -1 then t.op.erase n else t.op) ((u : Int) + 1) → But (fun i => lab i ≠ none) w w' → Nxt x lab (fillS t n o X) w w') := Lib.hid fun A1 lab1 w' ag r b => by
    refine ⟨A1, lab1, ⟨?_, f1, f2⟩, ag, b⟩
    rw [f3, hus, ← hu]
    exact r
  have d1 : decide (o < 0) = false := by simp; omega
  have HG1 : Hid (Calls Try.prog 60 #[.pointer (some ⟨x.s, 0, none⟩)] w fun e w' => e = .returned (.int .i64 0) ∧ ∃ A' lab', Sr w' x A' lab' t.O t.fl t.ps t.op (u : Int) ∧ (∀ i, i < w.heap.size → lab' i = lab i) ∧ But (fun i => lab i ≠ none) w w') := Lib.hid (by rw [et, hu]; exact HG.out)
  rw [eg, ← nk, ← eX]
  have NK := Lib.hid nk
  clear h h0 h1 hop hfl hx hhi f1 f2 f3 hu hs g1 g2 g3 UO hus et eg HG k2
  clear eX nk
  go_enter Try.func38, Try.ntmps38
  go_wp2_with fail
  refine HO.out.mono ?_
  rintro e w' ⟨rfl, rfl⟩
  go_wp2_with fail
  refine HG1.out.mono ?_
  rintro e w1 ⟨rfl, A1, lab1, r1, ag, b1⟩
  have H1 := Lib.hid r1
  have AG := Lib.hid ag
  have BW := Lib.hid b1
  clear r1 ag b1
  have FIN : Hid (∀ w', Sr w' x A1 lab1 t.O t.fl (setP t.ps n (Pg.takeX X o)) (if Pg.holeOf (Pg.takeX X o) = -1 then t.op.erase n else t.op) ((u : Int) + 1) → But (fun i => lab1 i ≠ none) w1 w' → Nxt x lab (fillS t n o X) w w') := Lib.hid fun w' r b => FIN0.out A1 lab1 w' AG.out r (BW.out.then b fun i hi q => by rw [AG.out i hi] at q; exact q)
  have HF := Lib.hid (Rn.rgFirst H1.out.ring 0)
  rw [Rop.first, hh] at HF
  have k14 := H1.out.cl.k4
  have k13 := H1.out.cl.k3
  have hl1 := H1.out.map.look (n := n) nfit.out
  rw [ptr_at hX.out] at hl1
  have HT := Lib.hid (Pg.pageTake_any (H1.out.pgs n X hX.out) o ho1.out)
  have ta := Pg.take_at ho0.out hi.out
  rw [ta.2.1, ta.2.2] at HT
  have ne0 : ((0 : Int) != 0) = false := rfl
  clear ta
  go_wp2_with fail
  refine HF.out.mono ?_
  rintro e w' ⟨rfl, rfl⟩
  go_wp2_with fail
  refine HT.out.mono ?_
  rintro e w2 ⟨rfl, r2, b2⟩
  obtain ⟨H2, B2⟩ := H1.out.page hX.out r2 b2
  obtain ⟨H3, B3⟩ := H2.count ((u : Int) + 1)
  have k25 := H2.cl.k5
  have f25 := H2.cl.f5
  have hwr : IntKind.i64.wrap ((u : Int) + 1) = (u : Int) + 1 := IntWalk.i64_in _ (by have := ub.out; omega)
  have H3' := Lib.hid H3
  have B3' := Lib.hid (B2.trans B3)
  have k33 := H3.cl.k3
  have hX3 : (n, Pg.takeX X o) ∈ setP t.ps n (Pg.takeX X o) := mem_set.2 (Or.inl ⟨rfl, rfl, mem_nums hX.out⟩)
  have hl3 := H3.map.look (n := n) nfit.out
  rw [ptr_at hX3] at hl3
  have HU := Lib.hid (Pg.full_any (H3.pgs n _ hX3))
  clear H2 B2 H3 B3 r2 b2 hl1 k14 k13 HF HT hX3
  obtain ⟨Y, hY⟩ : ∃ Y, Y = Pg.takeX X o := ⟨_, rfl⟩
  rw [← hY] at H3' HU
  have HY := Lib.hid hY
  clear hY
  by_cases hf : Pg.holeOf Y = -1
  · have e1 : (Pg.holeOf Y == -1) = true := by rw [hf]; rfl
    rw [e1] at HU
    clear e1
    go_wp2_with fail
    refine HU.out.mono ?_
    rintro e w4 ⟨rfl, b4⟩
    have H4 := Lib.hid (H3'.out.below b4)
    have k44 := H4.out.cl.k4
    have HD := Lib.hid (Rop.drop H4.out.ring kn.out)
    rw [← NK.out] at HD
    have B4' := Lib.hid (B3'.out.trans (Below.but b4 _))
    clear b4 B3' H3' hl3 k33 k25 f25
    go_wp2_with fail
    refine HD.out.mono ?_
    rintro e w5 ⟨⟨z, rfl⟩, r5, b5⟩
    obtain ⟨H5, B5⟩ := H4.out.turn r5 b5
    have HE : Hid (Nxt x lab (fillS t n o X) w w5) := Lib.hid (FIN.out w5 (by rw [← HY.out, if_pos hf]; exact H5) (B4'.out.trans B5))
    clear H5 B5 r5 b5
    go_wp2
    go_ret3
    exact ⟨rfl, HE.out⟩
  · have e1 : (Pg.holeOf Y == -1) = false := by simpa using hf
    rw [e1] at HU
    clear e1
    go_wp2_with fail
    refine HU.out.mono ?_
    rintro e w4 ⟨rfl, b4⟩
    have HE : Hid (Nxt x lab (fillS t n o X) w w4) := Lib.hid (FIN.out w4 (by rw [← HY.out, if_neg hf]; exact H3'.out.below b4) (B3'.out.trans (Below.but b4 _)))
    clear b4 B3' H3' hl3 k33 k25 f25
    go_wp2
    go_ret3
    exact ⟨rfl, HE.out⟩

theorem take_any (h : Sm w x A lab s) (o : Int) (ho : o ≤ 9223372036854775807) :
    Calls Try.prog 38 #[.pointer (some ⟨x.s, 0, none⟩), .int .i64 o] w (ShEnds (.tuple #[.int .i64 (takeOut x.c x.B s o).2.1, .int .i64 (takeOut x.c x.B s o).2.2.1, .int .i64 (takeOut x.c x.B s o).2.2.2]) x lab (takeOut x.c x.B s o).1 w) := by
  unfold takeOut
  by_cases h0 : o < 0
  · rw [if_pos h0]
    exact take_neg h o h0
  · rw [if_neg h0]
    by_cases hn : s.op = [] ∧ s.fl = []
    · rw [if_pos hn]
      exact take_out h o (by omega) hn.1 hn.2
    · rw [if_neg hn]
      by_cases hop : s.op = []
      · rw [if_pos hop]
        cases hfl : s.fl with
        | nil => exact absurd ⟨hop, hfl⟩ hn
        | cons y r =>
          obtain ⟨k, rfl, _⟩ := h.sw.pool.lt (x := y) (by rw [hfl]; simp)
          have := take_grow h o (by omega) ho hop hfl
          obtain ⟨g1, _, g3⟩ := h.sw.grow hfl h.sr.b1
          have e : growS x.c x.B s = ⟨s.O.set k x.c, r, s.ps ++ [((k : Int), List.replicate x.B (-1))], (k : Int) :: s.op⟩ := by unfold growS; rw [hfl]; rfl
          have e2 : (growS x.c x.B s).op.headD (-1) = (k : Int) := by rw [e]; rfl
          have e3 : pageAt (growS x.c x.B s) (k : Int) = List.replicate x.B (-1) := by
            unfold pageAt
            rw [e, mem_get g3.nod (X := List.replicate x.B (-1)) (List.mem_append_right _ (by simp))]
            rfl
          have hhi : Pg.holeOf (List.replicate x.B (-1)) = ((0 : Nat) : Int) := Pg.hole_at (by rw [List.length_replicate]; have := h.sr.b1; omega) (by unfold Pg.ow; rw [List.getElem?_replicate]; split <;> rfl) (fun j hj => by omega)
          simp only [e2, e3]
          rw [(Pg.take_at (by omega) hhi).2.1]
          exact this
      · rw [if_neg hop]
        obtain ⟨n, r, e⟩ : ∃ n r, s.op = n :: r := by
          cases q : s.op with
          | nil => exact absurd q hop
          | cons n r => exact ⟨n, r, rfl⟩
        obtain ⟨X, hX, hh⟩ := (h.sw.opm n).1 (by rw [e]; simp)
        obtain ⟨i, hi⟩ : ∃ i : Nat, Pg.holeOf X = (i : Int) := by
          rcases Pg.hole_cases X with ⟨q, _⟩ | ⟨j, q, _⟩
          · exact absurd q hh
          · exact ⟨j, q⟩
        have := take_open h o (by omega) ho e hX hi
        have e2 : s.op.headD (-1) = n := by rw [e]; rfl
        have e3 : pageAt s n = X := by unfold pageAt; rw [mem_get h.sw.nod hX]; rfl
        simp only [e2, e3]
        rw [(Pg.take_at (by omega) hi).2.1]
        exact this
end
end Go.Proofs.Ytfkegbipfekbdaa.Sh
