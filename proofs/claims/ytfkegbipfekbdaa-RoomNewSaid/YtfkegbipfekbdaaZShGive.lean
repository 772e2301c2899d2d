import Derived.Test.YtfkegbipfekbdaaZShTake
/-
  Package shelf: settle (as a deferred call) and Give, met by contracts.
-/
namespace Go.Proofs.Ytfkegbipfekbdaa.Sh
open Go.ChangeShapes Go.WideShapes Go.ChangeAt Go.RowKit
set_option maxRecDepth 100000

/-! ### What Give leaves -/
section
variable {K B : Nat} {c : Int} {s : Shl} {k j : Nat} {X : List Int} {ps : Ps} {n : Int} {Y : List Int}
theorem set_self (hn : (nums ps).Nodup) (h : (n, X) ∈ ps) : setP ps n X = ps := by
  unfold setP
  have : ∀ q ∈ ps, (if q.1 = n then (n, X) else q) = q := fun q hq => by
    by_cases e : q.1 = n
    · rw [if_pos e]
      obtain ⟨m, Z⟩ := q
      simp only at e
      subst e
      rw [same_page hn h hq]
    · exact if_neg e
  rw [List.map_congr_left this, List.map_id']
theorem del_set : delP (setP ps n Y) n = delP ps n := by
  unfold delP setP
  rw [List.filter_map]
  induction ps with
  | nil => rfl
  | cons q r ih =>
    by_cases e : q.1 = n
    · simp only [List.filter_cons, Function.comp, e]
      simpa using ih
    · simp only [List.filter_cons, Function.comp, e, if_false]
      simp only [e, bne_iff_ne, ne_eq, not_false_eq_true, if_true, List.map_cons, if_false]
      congr 1
/-- The open pages behind a block that is given back. -/
def opened (X : List Int) (n : Int) (op : List Int) : List Int := if Pg.holeOf X = -1 then n :: op else op
theorem Sw.gave (h : Sw K c B s) (hX : ((k : Int), X) ∈ s.ps) (hj : j < X.length) (hx : Pg.ow X j ≠ -1) :
    Sw K c B ⟨s.O, s.fl, setP s.ps (k : Int) (X.set j (-1)), opened X (k : Int) s.op⟩ ∧ usedS (setP s.ps (k : Int) (X.set j (-1))) + 1 = usedS s.ps ∧ Pg.holeOf (X.set j (-1)) ≠ -1 := by
  have hne : Pg.holeOf (X.set j (-1)) ≠ -1 := by
    rcases Pg.hole_cases (X.set j (-1)) with ⟨_, q⟩ | ⟨i, q, _⟩
    · exact absurd (by rw [Pg.ow_set hj, if_pos rfl]) (q j (by rw [List.length_set]; exact hj))
    · omega
  have hf := Pg.usedN_free hj hx
  have hs := used_set (Y := X.set j (-1)) h.nod hX
  have hh := h.here hX
  refine ⟨h.turn hX (by rw [List.length_set]; exact h.len _ _ hX) ((h.pn _ _ hX).set (by omega)) ?_ fun m => ?_, by omega, hne⟩
  · unfold opened
    split
    · rename_i z
      exact List.nodup_cons.2 ⟨fun q => hh.1 q z, h.opn⟩
    · exact h.opn
  · unfold opened
    split
    · rw [List.mem_cons]
      by_cases e : m = (k : Int)
      · simp [e, hne]
      · simp [e]
    · rename_i z
      by_cases e : m = (k : Int)
      · subst e
        simp [hne, hh.2 z]
      · simp [e]
end

/-! ### settle -/
section
variable {w : World} {x : Fx} {A : Adr} {lab : Lab} {O fl op : List Int} {ps : Ps} {u : Int}
/-- How settle ends: the page Y went back, or not. -/
def Settled (x : Fx) (A : Adr) (lab : Lab) (O fl : List Int) (ps : Ps) (op1 : List Int) (u : Int) (k : Nat) (Y : List Int) (w w' : World) : Prop :=
  But (fun i => lab i ≠ none) w w' ∧ (if Pg.usedN Y = 0 then Sr w' x A lab (O.set k (-1)) ((k : Int) :: fl) (delP ps (k : Int)) (op1.erase (k : Int)) u else Sr w' x A lab O fl ps op1 u)
set_option maxHeartbeats 1000000 in
theorem settle_any (h : Sr w x A lab O fl ps op u) {k : Nat} (h1 : k < x.K) {Y : List Int} (h2 : ((k : Int), Y) ∈ ps) (wf : Bool) (h3 : wf = true → Pg.holeOf Y ≠ -1 → (k : Int) ∉ op) (h4 : (nums ps).Nodup) {c : Int} (h5 : O[k]? = some c) (h6 : c ≠ -1) {op1 : List Int} (h7 : op1 = if wf = true ∧ Pg.holeOf Y ≠ -1 then (k : Int) :: op else op) (fm : FrameMode) :
    CallsD Try.prog 73 #[.pointer (some ⟨x.s, 0, none⟩), .int .i64 (k : Int), .bool wf] fm w fun e u' w' => u' = fm ∧ (e = .returned (.tuple #[]) ∧ Settled x A lab O fl ps op1 u k Y w w') := by
  have k2 := h.pool.k2
  have kfit : Hid (Pl.Fit (k : Int)) := Lib.hid ⟨by omega, by omega⟩
  have hk := Lib.hid h1
  have hX := Lib.hid h2
  have hnd := Lib.hid h4
  have hO := Lib.hid h5
  have hcn := Lib.hid h6
  have k3 := h.cl.k3
  have hl := h.map.look (n := (k : Int)) kfit.out
  rw [ptr_at h2] at hl
  cases wf with
  | false =>
    rw [if_neg (by simp)] at h7
    subst h7
    have H1 := Lib.hid h
    have BW := Lib.hid (But.refl (fun i => lab i ≠ none) w)
    clear h h1 h2 h3 h4 h5 h6 k2
    go_enter_d Try.func73, Try.ntmps73
    have HU := Lib.hid (Pg.used_any (H1.out.pgs (k : Int) Y hX.out))
    by_cases hz : Pg.usedN Y = 0
    · rw [hz] at HU
      go_wp2_with fail
      refine HU.out.mono ?_
      rintro e w2 ⟨rfl, b2⟩
      have H2 := Lib.hid (H1.out.below b2)
      have B2 := Lib.hid (BW.out.trans (Below.but b2 _))
      have k24 := H2.out.cl.k4
      have HD := Lib.hid (Rop.drop H2.out.ring hk.out)
      clear b2 BW H1 HU
      go_wp2_with fail
      refine HD.out.mono ?_
      rintro e w3 ⟨⟨z, rfl⟩, r3, b3⟩
      obtain ⟨H3, B3⟩ := H2.out.turn r3 b3
      have H3' := Lib.hid H3
      have B3' := Lib.hid (B2.out.trans B3)
      have k33 := H3.cl.k3
      have HX := Lib.hid (fun ty => H3.map.del hnd.out (mem_nums hX.out) kfit.out ty)
      clear H3 B3 r3 b3 B2 H2 k24 HD
      go_wp2_with (at_delete; refine Pg.wpList_delete_run rfl _ _ _ _ rfl rfl rfl HX.out ?_; intro w4 HE; have k40 := (H3'.out.del HE.1 HE.2).1.cl.k0)
      obtain ⟨m4, b4⟩ := HE
      obtain ⟨H4, B4⟩ := H3'.out.del m4 b4
      have H4' := Lib.hid H4
      have B4' := Lib.hid (B3'.out.trans B4)
      have HG := Lib.hid (Pl.give_any H4.pool (k : Int))
      have eg : Pl.giveOut O fl (k : Int) = (O.set k (-1), (k : Int) :: fl, 0) := by
        unfold Pl.giveOut
        have hl := H4.pool.wf.len
        rw [hl, Pl.inB_of hk.out, if_pos rfl, Int.toNat_natCast, if_neg (fun q => hcn.out (by rw [hO.out] at q; exact Option.some.inj q))]
      rw [eg] at HG
      clear H4 B4 m4 b4 B3' H3' k33 HX eg
      go_wp2_with fail
      refine HG.out.mono ?_
      rintro e w5 ⟨rfl, r5, b5⟩
      obtain ⟨H5, B5⟩ := H4'.out.swim r5 b5
      have HE : Hid (Settled x A lab O fl ps op1 u k Y w w5) := Lib.hid ⟨B4'.out.trans B5, by rw [if_pos hz]; exact H5⟩
      clear H5 B5 r5 b5 H4' B4' k40 HG hz
      go_wp2
      go_end0
      exact ⟨rfl, HE.out⟩
    · have e2 : (((Pg.usedN Y : Nat) : Int) == 0) = false := by simp; omega
      go_wp2_with fail
      refine HU.out.mono ?_
      rintro e w2 ⟨rfl, b2⟩
      have HE : Hid (Settled x A lab O fl ps op1 u k Y w w2) := Lib.hid ⟨BW.out.trans (Below.but b2 _), by rw [if_neg hz]; exact H1.out.below b2⟩
      clear b2 BW H1 HU hz
      go_wp2
      go_end0
      exact ⟨rfl, HE.out⟩
  | true =>
    have HF := Lib.hid (Pg.full_any (h.pgs _ _ h2))
    by_cases hf : Pg.holeOf Y = -1
    · rw [if_neg (by simp [hf])] at h7
      subst h7
      have e1 : (Pg.holeOf Y == -1) = true := by rw [hf]; rfl
      rw [e1] at HF
      have H0 := Lib.hid h
      clear h h1 h2 h3 h4 h5 h6 k2 e1
      go_enter_d Try.func73, Try.ntmps73
      go_wp2_with fail
      refine HF.out.mono ?_
      rintro e w1 ⟨rfl, b1⟩
      have H1 := Lib.hid (H0.out.below b1)
      have BW := Lib.hid (Below.but b1 (fun i => lab i ≠ none))
      clear b1 H0 HF
      have HU := Lib.hid (Pg.used_any (H1.out.pgs (k : Int) Y hX.out))
      by_cases hz : Pg.usedN Y = 0
      · rw [hz] at HU
        go_wp2_with fail
        refine HU.out.mono ?_
        rintro e w2 ⟨rfl, b2⟩
        have H2 := Lib.hid (H1.out.below b2)
        have B2 := Lib.hid (BW.out.trans (Below.but b2 _))
        have k24 := H2.out.cl.k4
        have HD := Lib.hid (Rop.drop H2.out.ring hk.out)
        clear b2 BW H1 HU
        go_wp2_with fail
        refine HD.out.mono ?_
        rintro e w3 ⟨⟨z, rfl⟩, r3, b3⟩
        obtain ⟨H3, B3⟩ := H2.out.turn r3 b3
        have H3' := Lib.hid H3
        have B3' := Lib.hid (B2.out.trans B3)
        have k33 := H3.cl.k3
        have HX := Lib.hid (fun ty => H3.map.del hnd.out (mem_nums hX.out) kfit.out ty)
        clear H3 B3 r3 b3 B2 H2 k24 HD
        go_wp2_with (at_delete; refine Pg.wpList_delete_run rfl _ _ _ _ rfl rfl rfl HX.out ?_; intro w4 HE; have k40 := (H3'.out.del HE.1 HE.2).1.cl.k0)
        obtain ⟨m4, b4⟩ := HE
        obtain ⟨H4, B4⟩ := H3'.out.del m4 b4
        have H4' := Lib.hid H4
        have B4' := Lib.hid (B3'.out.trans B4)
        have HG := Lib.hid (Pl.give_any H4.pool (k : Int))
        have eg : Pl.giveOut O fl (k : Int) = (O.set k (-1), (k : Int) :: fl, 0) := by
          unfold Pl.giveOut
          have hl := H4.pool.wf.len
          rw [hl, Pl.inB_of hk.out, if_pos rfl, Int.toNat_natCast, if_neg (fun q => hcn.out (by rw [hO.out] at q; exact Option.some.inj q))]
        rw [eg] at HG
        clear H4 B4 m4 b4 B3' H3' k33 HX eg
        go_wp2_with fail
        refine HG.out.mono ?_
        rintro e w5 ⟨rfl, r5, b5⟩
        obtain ⟨H5, B5⟩ := H4'.out.swim r5 b5
        have HE : Hid (Settled x A lab O fl ps op1 u k Y w w5) := Lib.hid ⟨B4'.out.trans B5, by rw [if_pos hz]; exact H5⟩
        clear H5 B5 r5 b5 H4' B4' k40 HG hz
        go_wp2
        go_end0
        exact ⟨rfl, HE.out⟩
      · have e2 : (((Pg.usedN Y : Nat) : Int) == 0) = false := by simp; omega
        go_wp2_with fail
        refine HU.out.mono ?_
        rintro e w2 ⟨rfl, b2⟩
        have HE : Hid (Settled x A lab O fl ps op1 u k Y w w2) := Lib.hid ⟨BW.out.trans (Below.but b2 _), by rw [if_neg hz]; exact H1.out.below b2⟩
        clear b2 BW H1 HU hz
        go_wp2
        go_end0
        exact ⟨rfl, HE.out⟩
    · rw [if_pos ⟨rfl, hf⟩] at h7
      have e1 : (Pg.holeOf Y == -1) = false := by simpa using hf
      rw [e1] at HF
      have H0 := Lib.hid h
      have hno := Lib.hid (h3 rfl hf)
      have EO := Lib.hid h7
      clear h h1 h2 h3 h4 h5 h6 k2 e1 h7
      go_enter_d Try.func73, Try.ntmps73
      go_wp2_with fail
      refine HF.out.mono ?_
      rintro e w0 ⟨rfl, b0⟩
      have HA := Lib.hid (H0.out.below b0)
      have k04 := HA.out.cl.k4
      have HP := Lib.hid (Rop.push HA.out.ring hk.out hno.out)
      have BA := Lib.hid (Below.but b0 (fun i => lab i ≠ none))
      clear b0 H0 HF
      go_wp2_with fail
      refine HP.out.mono ?_
      rintro e w1 ⟨rfl, r1, b1⟩
      obtain ⟨HQ, BQ⟩ := HA.out.turn r1 b1
      rw [← EO.out] at HQ
      have H1 := Lib.hid HQ
      have BW := Lib.hid (BA.out.trans BQ)
      clear r1 b1 HQ BQ HA BA k04 HP
      have HU := Lib.hid (Pg.used_any (H1.out.pgs (k : Int) Y hX.out))
      by_cases hz : Pg.usedN Y = 0
      · rw [hz] at HU
        go_wp2_with fail
        refine HU.out.mono ?_
        rintro e w2 ⟨rfl, b2⟩
        have H2 := Lib.hid (H1.out.below b2)
        have B2 := Lib.hid (BW.out.trans (Below.but b2 _))
        have k24 := H2.out.cl.k4
        have HD := Lib.hid (Rop.drop H2.out.ring hk.out)
        clear b2 BW H1 HU
        go_wp2_with fail
        refine HD.out.mono ?_
        rintro e w3 ⟨⟨z, rfl⟩, r3, b3⟩
        obtain ⟨H3, B3⟩ := H2.out.turn r3 b3
        have H3' := Lib.hid H3
        have B3' := Lib.hid (B2.out.trans B3)
        have k33 := H3.cl.k3
        have HX := Lib.hid (fun ty => H3.map.del hnd.out (mem_nums hX.out) kfit.out ty)
        clear H3 B3 r3 b3 B2 H2 k24 HD
        go_wp2_with (at_delete; refine Pg.wpList_delete_run rfl _ _ _ _ rfl rfl rfl HX.out ?_; intro w4 HE; have k40 := (H3'.out.del HE.1 HE.2).1.cl.k0)
        obtain ⟨m4, b4⟩ := HE
        obtain ⟨H4, B4⟩ := H3'.out.del m4 b4
        have H4' := Lib.hid H4
        have B4' := Lib.hid (B3'.out.trans B4)
        have HG := Lib.hid (Pl.give_any H4.pool (k : Int))
        have eg : Pl.giveOut O fl (k : Int) = (O.set k (-1), (k : Int) :: fl, 0) := by
          unfold Pl.giveOut
          have hl := H4.pool.wf.len
          rw [hl, Pl.inB_of hk.out, if_pos rfl, Int.toNat_natCast, if_neg (fun q => hcn.out (by rw [hO.out] at q; exact Option.some.inj q))]
        rw [eg] at HG
        clear H4 B4 m4 b4 B3' H3' k33 HX eg
        go_wp2_with fail
        refine HG.out.mono ?_
        rintro e w5 ⟨rfl, r5, b5⟩
        obtain ⟨H5, B5⟩ := H4'.out.swim r5 b5
        have HE : Hid (Settled x A lab O fl ps op1 u k Y w w5) := Lib.hid ⟨B4'.out.trans B5, by rw [if_pos hz]; exact H5⟩
        clear H5 B5 r5 b5 H4' B4' k40 HG hz
        go_wp2
        go_end0
        exact ⟨rfl, HE.out⟩
      · have e2 : (((Pg.usedN Y : Nat) : Int) == 0) = false := by simp; omega
        go_wp2_with fail
        refine HU.out.mono ?_
        rintro e w2 ⟨rfl, b2⟩
        have HE : Hid (Settled x A lab O fl ps op1 u k Y w w2) := Lib.hid ⟨BW.out.trans (Below.but b2 _), by rw [if_neg hz]; exact H1.out.below b2⟩
        clear b2 BW H1 HU hz
        go_wp2
        go_end0
        exact ⟨rfl, HE.out⟩
end

/-! ### Give -/
section
variable {w : World} {x : Fx} {A : Adr} {lab : Lab} {s : Shl}
theorem give_no (h : Sm w x A lab s) {n : Int} (hn : Pl.Fit n) (k : Int) (hg : getP s.ps n = none) :
    Calls Try.prog 43 #[.pointer (some ⟨x.s, 0, none⟩), .int .i64 n, .int .i64 k] w (ShEnds (.int .i64 1) x lab s w) := by
  have H := Lib.hid (find_any h.sr hn)
  rw [ptr_none hg] at H
  have HS := Lib.hid (h.same (Below.refl _ _))
  clear h hn hg
  go_enter_defers Try.func43, Try.ntmps43
  go_wp2_with fail
  refine H.out.mono ?_
  rintro e w' ⟨rfl, rfl⟩
  go_wp2
  exact ⟨_, results_tmp rfl _ _ _, rfl, HS.out⟩
theorem give_nil (n k : Int) (w : World) : Calls Try.prog 43 #[.pointer none, .int .i64 n, .int .i64 k] w (R1 1 w) := by
  have H := Lib.hid (find_nil n w)
  go_enter_defers Try.func43, Try.ntmps43
  go_wp2_with fail
  refine H.out.mono ?_
  rintro e w' ⟨rfl, rfl⟩
  go_wp2
  exact ⟨_, results_tmp rfl _ _ _, rfl, rfl⟩
/-- A block that is refused. -/
theorem give_bad (h : Sm w x A lab s) {k : Nat} (hk : k < x.K) {X : List Int} (hX : ((k : Int), X) ∈ s.ps) (at_ : Int) (z : Int) (hz : z ≠ 0) (hx : Pg.giveX X at_ = X) (he : Pg.giveE X at_ = z) :
    Calls Try.prog 43 #[.pointer (some ⟨x.s, 0, none⟩), .int .i64 (k : Int), .int .i64 at_] w (ShEnds (.int .i64 z) x lab s w) := by
  have k2 := h.sr.pool.k2
  have H := Lib.hid (find_any h.sr (n := (k : Int)) ⟨by omega, by omega⟩)
  rw [ptr_at hX] at H
  have HF := Lib.hid (Pg.full_any (h.sr.pgs _ _ hX))
  have HG : Hid (∀ w1, Below w.heap.size w w1 → Calls Try.prog 74 #[.pointer (some ⟨(A (k : Int)).1, 0, none⟩), .int .i64 at_] w1 (Pg.PgEnds (.int .i64 z) (A (k : Int)).1 (A (k : Int)).2.1 (A (k : Int)).2.2 X w1)) := Lib.hid fun w1 b1 => by
    have := Pg.pageGive_any ((h.sr.pgs _ _ hX).below b1) at_
    rwa [hx, he] at this
  have HS : Hid (∀ w1 w2, Below w.heap.size w w1 → Pg.Pm w2 (A (k : Int)).1 (A (k : Int)).2.1 (A (k : Int)).2.2 X → But (fun i => i = (A (k : Int)).2.1 ∨ i = (A (k : Int)).2.2) w1 w2 →
      CallsD Try.prog 73 #[.pointer (some ⟨x.s, 0, none⟩), .int .i64 (k : Int), .bool (Pg.holeOf X == -1)] .returning w2 fun e u' w' => u' = .returning ∧ (e = .returned (.tuple #[]) ∧ Nxt x lab s w w')) := Lib.hid fun w1 w2 b1 p2 b2 => by
    obtain ⟨r1, r2⟩ := (h.sr.below b1).page hX p2 b2
    rw [set_self h.sw.nod hX] at r1
    obtain ⟨k', ek, hk', ho⟩ := h.sw.own _ (mem_nums hX)
    have : k' = k := by omega
    subst this
    have hc := h.sw.c0
    have hu := h.uw _ _ hX
    have nop : (if (Pg.holeOf X == -1) = true ∧ Pg.holeOf X ≠ -1 then (k' : Int) :: s.op else s.op) = s.op := if_neg (by simp)
    refine (settle_any r1 hk hX (Pg.holeOf X == -1) (fun q1 q2 => absurd (by simpa using q1) q2) h.sw.nod ho (by omega) (op1 := s.op) nop.symm .returning).mono ?_
    rintro e u' w3 ⟨rfl, rfl, b3, q3⟩
    rw [if_neg (by omega)] at q3
    exact ⟨rfl, rfl, A, lab, ⟨q3, h.sw, h.uw⟩, fun _ _ => rfl, (Below.but b1 _).trans (r2.trans b3)⟩
  have e0 : (z != 0) = true := by simpa using hz
  generalize (Pg.holeOf X == -1) = f at HF HS
  generalize A (k : Int) = a at *
  clear h hk hX hz hx he k2
  go_enter_defers Try.func43, Try.ntmps43
  go_wp2_with fail
  refine H.out.mono ?_
  rintro e w' ⟨rfl, rfl⟩
  go_wp2_with fail
  refine HF.out.mono ?_
  rintro e w1 ⟨rfl, b1⟩
  have B1' := Lib.hid b1
  clear b1
  go_wp2_with fail
  refine (HG.out _ B1'.out).mono ?_
  rintro e w2 ⟨rfl, r2, b2⟩
  have HE := Lib.hid (HS.out _ _ B1'.out r2 b2)
  clear r2 b2
  go_wp2
  refine leaves_cons (f := 73) (args := #[.pointer (some ⟨x.s, 0, none⟩), .int .i64 (k : Int), .bool f]) (by simp) (by simp [go_sem]) ?_
  refine HE.out.mono ?_
  rintro e u' w'' ⟨rfl, rfl, hn⟩
  exact ⟨_, results_tmp rfl _ _ _, rfl, hn⟩
/-- A block that is given back. -/
theorem give_ok (h : Sm w x A lab s) {k : Nat} (hk : k < x.K) {X : List Int} (hX : ((k : Int), X) ∈ s.ps) {j : Nat} (hj : j < X.length) (hx : Pg.ow X j ≠ -1) :
    Calls Try.prog 43 #[.pointer (some ⟨x.s, 0, none⟩), .int .i64 (k : Int), .int .i64 (j : Int)] w
      (ShEnds (.int .i64 0) x lab (if Pg.usedN (X.set j (-1)) = 0 then ⟨s.O.set k (-1), (k : Int) :: s.fl, delP s.ps (k : Int), (opened X (k : Int) s.op).erase (k : Int)⟩ else ⟨s.O, s.fl, setP s.ps (k : Int) (X.set j (-1)), opened X (k : Int) s.op⟩) w) := by
  have k2 := h.sr.pool.k2
  obtain ⟨G1, G2, G3⟩ := h.sw.gave hX hj hx
  have H := Lib.hid (find_any h.sr (n := (k : Int)) ⟨by omega, by omega⟩)
  rw [ptr_at hX] at H
  have HF := Lib.hid (Pg.full_any (h.sr.pgs _ _ hX))
  obtain ⟨Y, hY⟩ : ∃ Y, Y = X.set j (-1) := ⟨_, rfl⟩
  rw [← hY] at G1 G2 G3 ⊢
  obtain ⟨t, ht⟩ : ∃ t : Shl, t = (if Pg.usedN Y = 0 then ⟨s.O.set k (-1), (k : Int) :: s.fl, delP s.ps (k : Int), (opened X (k : Int) s.op).erase (k : Int)⟩ else ⟨s.O, s.fl, setP s.ps (k : Int) Y, opened X (k : Int) s.op⟩) := ⟨_, rfl⟩
  rw [← ht]
  have HG : Hid (∀ w1, Below w.heap.size w w1 → Calls Try.prog 74 #[.pointer (some ⟨(A (k : Int)).1, 0, none⟩), .int .i64 (j : Int)] w1 (Pg.PgEnds (.int .i64 0) (A (k : Int)).1 (A (k : Int)).2.1 (A (k : Int)).2.2 Y w1)) := Lib.hid fun w1 b1 => by
    have := Pg.pageGive_any ((h.sr.pgs _ _ hX).below b1) (j : Int)
    rwa [(Pg.give_at hj hx).1, (Pg.give_at hj hx).2, ← hY] at this
  obtain ⟨v, hv⟩ : ∃ v, v = usedS s.ps := ⟨_, rfl⟩
  have hYm : ((k : Int), Y) ∈ setP s.ps (k : Int) Y := mem_set.2 (Or.inl ⟨rfl, rfl, mem_nums hX⟩)
  have HS : Hid (∀ w1 w2, Below w.heap.size w w1 → Pg.Pm w2 (A (k : Int)).1 (A (k : Int)).2.1 (A (k : Int)).2.2 Y → But (fun i => i = (A (k : Int)).2.1 ∨ i = (A (k : Int)).2.2) w1 w2 →
      Cl w2 x (v : Int) ∧ CallsD Try.prog 73 #[.pointer (some ⟨x.s, 0, none⟩), .int .i64 (k : Int), .bool (Pg.holeOf X == -1)] .returning (w2.setCell ⟨x.s, 5, none⟩ (.int .i64 ((v : Int) - 1))) fun e u' w' => u' = .returning ∧ (e = .returned (.tuple #[]) ∧ Nxt x lab t w w')) := Lib.hid fun w1 w2 b1 p2 b2 => by
    obtain ⟨r1, r2⟩ := (h.sr.below b1).page hX p2 b2
    rw [← hv] at r1
    obtain ⟨c1, c2⟩ := r1.count ((v : Int) - 1)
    obtain ⟨k', ek, hk', ho⟩ := h.sw.own _ (mem_nums hX)
    have : k' = k := by omega
    subst this
    have hc := h.sw.c0
    have hh := h.sw.here hX
    refine ⟨r1.cl, (settle_any c1 hk hYm (Pg.holeOf X == -1) (fun q1 _ q3 => hh.1 q3 (by simpa using q1)) (by rw [nums_set]; exact h.sw.nod) ho (by omega) (op1 := opened X (k' : Int) s.op) (by unfold opened; simp [G3]) .returning).mono ?_⟩
    rintro e u' w3 ⟨rfl, rfl, b3, q3⟩
    have bt := (Below.but b1 (fun i => lab i ≠ none)).trans (r2.trans (c2.trans b3))
    have ev : ((v : Int) - 1) = (usedS (setP s.ps (k' : Int) Y) : Int) := by omega
    rw [ev] at q3
    refine ⟨rfl, rfl, A, lab, ?_, fun _ _ => rfl, bt⟩
    rw [ht]
    by_cases hz : Pg.usedN Y = 0
    · rw [if_pos hz] at q3 ⊢
      have bk := G1.back (k := k') (by rw [nums_set]; exact mem_nums hX)
      have ud := used_del (n := (k' : Int)) (X := Y) G1.nod hYm
      have e0 : usedS (delP s.ps (k' : Int)) = usedS (setP s.ps (k' : Int) Y) := by
        rw [← del_set (Y := Y)]
        show usedS (delP (setP s.ps (k' : Int) Y) (k' : Int)) = _
        have : usedS (delP (setP s.ps (k' : Int) Y) (k' : Int)) + Pg.usedN Y = usedS (setP s.ps (k' : Int) Y) := ud
        omega
      simp only [del_set] at bk
      rw [del_set, ← e0] at q3
      exact ⟨q3, bk, fun m Z hm => h.uw m Z (mem_del.1 hm).2⟩
    · rw [if_neg hz] at q3 ⊢
      refine ⟨q3, G1, fun m Z hm => ?_⟩
      rcases mem_set.1 hm with ⟨_, rfl, _⟩ | ⟨_, q⟩
      · omega
      · exact h.uw _ _ q
  have VB : Hid (1 ≤ v ∧ v ≤ 1000000) := Lib.hid (by
    have q1 := h.sw.used_le
    have q2 := h.sr.b2
    have q3 := Nat.mul_le_mul k2 q2
    omega)
  have hwr : IntKind.i64.wrap ((v : Int) - 1) = (v : Int) - 1 := IntWalk.i64_in _ (by have := VB.out; omega)
  generalize (Pg.holeOf X == -1) = f at HF HS
  generalize A (k : Int) = a at *
  clear h hk hX k2 G1 G2 G3 ht hv hYm hj hx hY
  go_enter_defers Try.func43, Try.ntmps43
  go_wp2_with fail
  refine H.out.mono ?_
  rintro e w' ⟨rfl, rfl⟩
  go_wp2_with fail
  refine HF.out.mono ?_
  rintro e w1 ⟨rfl, b1⟩
  have B1' := Lib.hid b1
  clear b1
  go_wp2_with fail
  refine (HG.out _ B1'.out).mono ?_
  rintro e w2 ⟨rfl, r2, b2⟩
  obtain ⟨c2, q2⟩ := HS.out _ _ B1'.out r2 b2
  have HE := Lib.hid q2
  have k25 := c2.k5
  have f25 := c2.f5
  clear r2 b2 q2 c2
  go_wp2
  refine leaves_cons (f := 73) (args := #[.pointer (some ⟨x.s, 0, none⟩), .int .i64 (k : Int), .bool f]) (by simp) (by simp [go_sem]) ?_
  refine HE.out.mono ?_
  rintro e u' w'' ⟨rfl, rfl, hn⟩
  exact ⟨_, results_tmp rfl _ _ _, rfl, hn⟩
theorem give_any (h : Sm w x A lab s) {n : Int} (hn : Pl.Fit n) (at_ : Int) :
    Calls Try.prog 43 #[.pointer (some ⟨x.s, 0, none⟩), .int .i64 n, .int .i64 at_] w (ShEnds (.int .i64 (giveOut s n at_).2) x lab (giveOut s n at_).1 w) := by
  unfold giveOut
  cases hg : getP s.ps n with
  | none => exact give_no h hn at_ hg
  | some X =>
    have hX := get_mem hg
    obtain ⟨k, rfl, hk, _⟩ := h.sw.own n (mem_nums hX)
    dsimp only
    by_cases he : Pg.giveE X at_ ≠ 0
    · rw [if_pos he]
      refine give_bad h hk hX at_ _ he ?_ rfl
      unfold Pg.giveE at he
      unfold Pg.giveX
      split
      · rfl
      · rename_i q
        rw [if_neg q] at he
        split
        · rfl
        · rename_i q2
          rw [if_neg q2] at he
          exact absurd rfl he
    · rw [if_neg he]
      have hin : ∃ j : Nat, at_ = (j : Int) ∧ j < X.length ∧ Pg.ow X j ≠ -1 := by
        unfold Pg.giveE at he
        cases q : Pg.inP X at_ with
        | false => rw [q] at he; exact absurd (by simp) he
        | true =>
          obtain ⟨j, rfl, hj⟩ := Pg.inP_in q
          refine ⟨j, rfl, hj, fun z => he ?_⟩
          rw [q]
          simp [z]
      obtain ⟨j, rfl, hj, hx⟩ := hin
      have := give_ok h hk hX hj hx
      rw [(Pg.give_at hj hx).1]
      simp only [Int.toNat_natCast]
      unfold opened at this
      split at this
      · rename_i z
        rw [if_pos z]
        exact this
      · rename_i z
        rw [if_neg z]
        exact this
end
end Go.Proofs.Ytfkegbipfekbdaa.Sh
