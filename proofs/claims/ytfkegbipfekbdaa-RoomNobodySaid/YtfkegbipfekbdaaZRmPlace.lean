import Derived.Test.YtfkegbipfekbdaaZRmLarged
/-
  Package room: Place of any arguments.
-/
namespace Go.Proofs.Ytfkegbipfekbdaa.Room
open Go.ChangeShapes Go.WideShapes Go.ChangeAt Go.RowKit
open Sh (Shl Ps Sw Uw Sr Sm Fx Adr Lab Nxt Far nums usedS mem_nums)
set_option maxRecDepth 100000

/-- How Place ends: the place p is told, of the caller's own, and what is wrong; the room is r, which is charged. -/
def PcEnds (y : Gx) (x : Nat → Fx) (lab : Nat → Lab) (Q : Nat → Prop) (m : Nat) (l : Int) (r : Rom) (p : Pc) (err : Int) (w : World) (e : Ending) (w' : World) : Prop :=
  ∃ pa pc, e = .returned (.tuple #[.agg #[.int .i64 p.cl, .int .i64 p.n, .int .i64 p.i, .slice pa p.ps.length pc], .int .i64 err]) ∧ Ints w' w'.heap.size pa p.ps.length p.ps ∧ GNp y x lab Q m r pa p.ps.length w w' ∧ Mt w' m r.st l
section
variable {w w0 w1 w6 : World} {y : Gx} {x : Nat → Fx} {A : Nat → Adr} {lab : Nat → Lab} {V : Int → Value} {Q : Nat → Prop} {r r' : Rom} {m : Nat} {l : Int}
theorem GN.from (h : GN y x lab Q m r w1 w6) (hb : Below w.heap.size w w1) : GN y x lab Q m r w w6 := by
  obtain ⟨A', lab', V', Q', g, sub, b⟩ := h
  exact ⟨A', lab', V', Q', g, fun i hi z => sub i (Nat.lt_of_lt_of_le hi hb.size) z, (Below.but hb _).trans b⟩
theorem GNp.from {pa : Option Addr} {n : Nat} (h : GNp y x lab Q m r pa n w1 w6) (hb : Below w.heap.size w w1) : GNp y x lab Q m r pa n w w6 := by
  obtain ⟨A', lab', V', Q', g, sub, b, hp⟩ := h
  refine ⟨A', lab', V', Q', g, fun i hi z => sub i (Nat.lt_of_lt_of_le hi hb.size) z, (Below.but hb _).trans b, fun z => ?_⟩
  obtain ⟨g, o, e, h1, h2⟩ := hp z
  exact ⟨g, o, e, Nat.le_trans hb.size h1, h2⟩
theorem GN.none {pa : Option Addr} (h : GN y x lab Q m r w1 w6) : GNp y x lab Q m r pa 0 w1 w6 := by
  obtain ⟨A', lab', V', Q', g, sub, b⟩ := h
  exact ⟨A', lab', V', Q', g, sub, b, fun z => absurd z (by omega)⟩
/-- The result's variable is laid. -/
theorem GNp.laid (h : Gw w y x A lab V Q m l r) (b0 : Below w.heap.size w w0) (hlt : w.heap.size < w0.heap.size) (P6 : Pr w6 w.heap.size) {pa : Option Addr} {n : Nat} (gn : GNp y x lab Q m r' pa n w0 w6) (mt : Mt w6 m r'.st l) {ps : List Int} (hi : Ints w6 w6.heap.size pa n ps) (a b c d : Value) :
    GNp y x lab Q m r' pa n w (laidP w6 w.heap.size a b c d) ∧ Mt (laidP w6 w.heap.size a b c d) m r'.st l ∧ Ints (laidP w6 w.heap.size a b c d) (laidP w6 w.heap.size a b c d).heap.size pa n ps := by
  obtain ⟨_, _, _, _, b7⟩ := P6.laid a b c d
  obtain ⟨A', lab', V', Q', g, sub, bb, hp⟩ := gn
  have ms := h.ms
  have nf : ∀ i, i = w.heap.size → ¬ Ftp y lab' Q' i := fun i e z => by
    rw [e] at z
    have := h.gm.ftp (sub _ hlt z)
    omega
  have far : Far w6 (· = w.heap.size) := fun i e _ v _ => by
    rw [e, P6.c1]
    simp
  refine ⟨⟨A', lab', V', Q', g.but b7 nf far, fun i hi z => sub i (by omega) z, ((Below.but b0 _).trans bb).then b7 fun i hi e => by omega, fun z => ?_⟩, mt.but b7 (by omega), (hi.far b7 (Nat.le_refl _) fun z => ?_).more b7.size⟩
  · obtain ⟨g6, o6, e, h1, h2⟩ := hp z
    exact ⟨g6, o6, e, by omega, h2⟩
  · obtain ⟨g6, o6, e, hg, _⟩ := hp z
    exact ⟨g6, o6, e, by omega⟩
theorem ints_nil (w : World) (B : Nat) : Ints w B none 0 [] := ⟨rfl, by omega, fun _ h => by simp at h, fun h => absurd h (by omega)⟩
/-- A place that isn't, and what is wrong: nothing has changed. -/
theorem PcEnds.no (h : Gw w y x A lab V Q m l r) (b0 : Below w.heap.size w w0) (hlt : w.heap.size < w0.heap.size) (b1 : Below w0.heap.size w0 w1) (P0 : Pr w0 w.heap.size) (err : Int) :
    PcEnds y x lab Q m l r noPc err w (.returned (.tuple #[.agg #[.int .i64 0, .int .i64 0, .int .i64 0, .slice none 0 0], .int .i64 err])) (laidP w1 w.heap.size (.int .i64 0) (.int .i64 0) (.int .i64 0) (.slice none 0 0)) ∧
    PcEnds y x lab Q m l r noPc err w (.returned (.tuple #[.agg #[.int .i64 0, .int .i64 0, .int .i64 0, .slice none 0 0], .int .i64 err])) w1 := by
  have P1 := P0.block (v' := w1) (b1.block _ hlt)
  have h1 := (h.below b0).below b1
  have gn : GN y x lab Q m r w0 w1 := (GN.same h1).from b1
  obtain ⟨a1, a2, a3⟩ := GNp.laid h b0 hlt P1 gn.none h1.mt (ints_nil w1 _) (.int .i64 0) (.int .i64 0) (.int .i64 0) (.slice none 0 0)
  exact ⟨⟨none, 0, rfl, a3, a1, a2⟩, ⟨none, 0, rfl, ints_nil _ _, (gn.from b0).none, h1.mt⟩⟩
theorem gplace_neg (h : Gw w y x A lab V Q m l r) (o size : Int) (ho : o < 0) : Calls Try.prog 11 #[.pointer (some ⟨y.g, 0, none⟩), .int .i64 o, .int .i64 size] w (PcEnds y x lab Q m l r noPc 1 w) := by
  have b0 : Below w.heap.size w (w.alloc zerosP) := below1 w _
  have hlt : w.heap.size < (w.alloc zerosP).heap.size := by simp
  have HE := Lib.hid (PcEnds.no h b0 hlt (Below.refl _ _) (Pr.new w) 1)
  have d0 : decide (o < 0) = true := decide_eq_true ho
  clear h b0 hlt ho
  go_enter Try.func11, Try.ntmps11
  go_wp2
  refine bodyPost_ret (v := .tuple #[.agg #[.int .i64 0, .int .i64 0, .int .i64 0, .slice none 0 0], .int .i64 1]) (by simp [results, Try.results11, go_sem]) rfl ?_
  first | exact HE.out.1 | exact HE.out.2
theorem gplace_no (h : Gw w y x A lab V Q m l r) (o size : Int) (ho : 0 ≤ o) (hs : size ≤ 9223372036854775807) {err : Int} (hf : fitsR y.c r size = err) (he : err ≠ 0) : Calls Try.prog 11 #[.pointer (some ⟨y.g, 0, none⟩), .int .i64 o, .int .i64 size] w (PcEnds y x lab Q m l r noPc err w) := by
  have b0 : Below w.heap.size w (w.alloc zerosP) := below1 w _
  have hlt : w.heap.size < (w.alloc zerosP).heap.size := by simp
  have HF := Lib.hid (gfits_any (h.below b0).gm size hs)
  rw [hf] at HF
  have HE := Lib.hid (fun w1 b1 => PcEnds.no (w1 := w1) h b0 hlt b1 (Pr.new w) err)
  have HR := Lib.hid (fun w1 (b1 : Below (w.alloc zerosP).heap.size (w.alloc zerosP) w1) => (Pr.new w).block (b1.block _ hlt))
  have d0 : decide (o < 0) = false := decide_eq_false (by omega)
  have d1 : (err != 0) = true := by simpa using he
  clear h b0 hlt ho hf he
  go_enter Try.func11, Try.ntmps11
  go_wp2_with fail
  refine HF.out.mono ?_
  rintro e w1 ⟨rfl, b1⟩
  have HE1 := Lib.hid (HE.out w1 b1)
  obtain ⟨c0, c1, c2, c3, f0, f1, f2, f3⟩ := HR.out w1 b1
  clear b1 HE HR
  go_wp2
  refine bodyPost_ret (v := .tuple #[.agg #[.int .i64 0, .int .i64 0, .int .i64 0, .slice none 0 0], .int .i64 err]) (by simp [results, Try.results11, go_sem, c0, c1, c2, c3]) rfl ?_
  first | exact HE1.out.1 | exact HE1.out.2
set_option maxHeartbeats 1000000 in
theorem gplace_small (h : Gw w y x A lab V Q m l r) (o size : Int) (ho : 0 ≤ o) (ho1 : o ≤ 9223372036854775807) (hs : size ≤ 9223372036854775807) (hf : fitsR y.c r size = 0) {k : Int} (hk : pick y.c.xs size = k) (hk0 : 0 ≤ k) {p i err : Int} {r' : Rom} (ht : takeR (blk y.c) r k o = (r', p, i, err)) :
    Calls Try.prog 11 #[.pointer (some ⟨y.g, 0, none⟩), .int .i64 o, .int .i64 size] w (PcEnds y x lab Q m l r' ⟨k, p, i, []⟩ err w) := by
  have b0 : Below w.heap.size w (w.alloc zerosP) := below1 w _
  have hlt : w.heap.size < (w.alloc zerosP).heap.size := by simp
  have h0 := h.below b0
  have HF := Lib.hid (gfits_any h0.gm size hs)
  rw [hf] at HF
  have H3 : Hid (∀ w1, Below (w.alloc zerosP).heap.size (w.alloc zerosP) w1 → w1.cell? ⟨y.g, 3, none⟩ = some (.slice y.za y.c.cn y.zc) ∧ Calls Try.prog 34 #[.slice y.za y.c.cn y.zc, .int .i64 size] w1 (R1 k w1) ∧
      Calls Try.prog 12 #[.pointer (some ⟨y.g, 0, none⟩), .int .i64 k, .int .i64 o] w1 fun e w2 => e = .returned (.tuple #[.int .i64 p, .int .i64 i, .int .i64 err]) ∧ Pr w2 w.heap.size ∧ PcEnds y x lab Q m l r' ⟨k, p, i, []⟩ err w (.returned (.tuple #[.agg #[.int .i64 k, .int .i64 p, .int .i64 i, .slice none 0 0], .int .i64 err])) (laidP w2 w.heap.size (.int .i64 k) (.int .i64 p) (.int .i64 i) (.slice none 0 0))) := Lib.hid fun w1 b1 => by
    have h1 := h0.below b1
    refine ⟨h1.gm.cl.k3, by rw [← hk]; exact pick_any y.za y.c.cn y.zc y.c.xs size w1.heap.size w1 h1.gm.sizes.ints, ?_⟩
    have g := gtake_any h1 k o ho1
    rw [ht] at g
    refine g.mono ?_
    rintro e w2 ⟨rfl, gn, mt⟩
    obtain ⟨A', lab', V', Q', g2, sub, bb⟩ := gn
    have P2 : Pr w2 w.heap.size := ((Pr.new w).block (v' := w1) (b1.block _ hlt)).block (bb.block _ (Nat.lt_of_lt_of_le hlt b1.size) (fun e => by
      rcases e with e | e
      · have := h.gm.ftp (Or.inr e)
        omega
      · have := h.ms
        omega))
    have gn : GN y x lab Q m r' w1 w2 := ⟨A', lab', V', Q', g2, sub, bb⟩
    obtain ⟨a1, a2, a3⟩ := GNp.laid h b0 hlt P2 (gn.from b1).none mt (ints_nil w2 _) (.int .i64 k) (.int .i64 p) (.int .i64 i) (.slice none 0 0)
    exact ⟨rfl, P2, ⟨none, 0, rfl, a3, a1, a2⟩⟩
  have d0 : decide (o < 0) = false := decide_eq_false (by omega)
  have d2 : decide (k < 0) = false := decide_eq_false (by omega)
  clear h h0 b0 hlt ho hf hk hk0 ht
  go_enter Try.func11, Try.ntmps11
  go_wp2_with fail
  refine HF.out.mono ?_
  rintro e w1 ⟨rfl, b1⟩
  obtain ⟨k3, hp, ht⟩ := H3.out w1 b1
  have HP := Lib.hid hp
  have HT := Lib.hid ht
  clear hp ht b1 H3
  go_wp2_with fail
  refine HP.out.mono ?_
  rintro e w' ⟨rfl, rfl⟩
  go_wp2_with fail
  refine HT.out.mono ?_
  rintro e w2 ⟨rfl, P2, he⟩
  have HE := Lib.hid he
  have HC := Lib.hid (P2.laid (.int .i64 k) (.int .i64 p) (.int .i64 i) (.slice none 0 0))
  obtain ⟨c0, c1, c2, c3, f0, f1, f2, f3⟩ := P2
  clear he k3
  go_wp2
  obtain ⟨e0, e1, e2, e3, _⟩ := HC.out
  unfold laidP at e0 e1 e2 e3
  refine bodyPost_ret (v := .tuple #[.agg #[.int .i64 k, .int .i64 p, .int .i64 i, .slice none 0 0], .int .i64 err]) (by simp [results, Try.results11, go_sem, c0, c1, c2, c3]) rfl ?_
  exact HE.out
set_option maxHeartbeats 1000000 in
theorem gplace_large (h : Gw w y x A lab V Q m l r) (o size : Int) (ho : 0 ≤ o) (hs : size ≤ 9223372036854775807) (hf : fitsR y.c r size = 0) (hk : pick y.c.xs size < 0) {q k0 : Nat} {rest : List Int} (hfl : r.fl = (k0 : Int) :: rest) (ha : allOf size y.c.size = (q : Int) + 1) (hq : q ≤ rest.length) {p : Pc} (hr : layN y.c r (q + 1) = (r', p)) :
    Calls Try.prog 11 #[.pointer (some ⟨y.g, 0, none⟩), .int .i64 o, .int .i64 size] w (PcEnds y x lab Q m l r' p 0 w) := by
  have b0 : Below w.heap.size w (w.alloc zerosP) := below1 w _
  have hlt : w.heap.size < (w.alloc zerosP).heap.size := by simp
  have h0 := h.below b0
  have HF := Lib.hid (gfits_any h0.gm size hs)
  rw [hf] at HF
  obtain ⟨k, hk2⟩ : ∃ k, k = pick y.c.xs size := ⟨_, rfl⟩
  rw [← hk2] at hk
  have H3 : Hid (∀ w1, Below (w.alloc zerosP).heap.size (w.alloc zerosP) w1 → w1.cell? ⟨y.g, 3, none⟩ = some (.slice y.za y.c.cn y.zc) ∧ Calls Try.prog 34 #[.slice y.za y.c.cn y.zc, .int .i64 size] w1 (R1 k w1) ∧
      Calls Try.prog 35 #[.pointer (some ⟨y.g, 0, none⟩), .int .i64 size] w1 fun e w2 => ∃ pa pc, e = .returned (.agg #[.int .i64 p.cl, .int .i64 p.n, .int .i64 p.i, .slice pa p.ps.length pc]) ∧ Pr w2 w.heap.size ∧ PcEnds y x lab Q m l r' p 0 w (.returned (.tuple #[.agg #[.int .i64 p.cl, .int .i64 p.n, .int .i64 p.i, .slice pa p.ps.length pc], .int .i64 0])) (laidP w2 w.heap.size (.int .i64 p.cl) (.int .i64 p.n) (.int .i64 p.i) (.slice pa p.ps.length pc))) := Lib.hid fun w1 b1 => by
    have h1 := h0.below b1
    refine ⟨h1.gm.cl.k3, by rw [hk2]; exact pick_any y.za y.c.cn y.zc y.c.xs size w1.heap.size w1 h1.gm.sizes.ints, ?_⟩
    have g := glarge_any h1 size hs hfl ha hq
    rw [hr] at g
    refine g.mono ?_
    rintro e w2 ⟨pa, pc, rfl, hi, gn, mt⟩
    obtain ⟨A', lab', V', Q', g2, sub, bb, hpa⟩ := gn
    have s1 := b1.size
    have P2 : Pr w2 w.heap.size := ((Pr.new w).block (v' := w1) (b1.block _ hlt)).block (bb.block _ (Nat.lt_of_lt_of_le hlt b1.size) (fun e => by
      rcases e with e | e
      · have := h.gm.ftp (Or.inr e)
        omega
      · have := h.ms
        omega))
    have gn : GNp y x lab Q m r' pa p.ps.length w1 w2 := ⟨A', lab', V', Q', g2, sub, bb, hpa⟩
    obtain ⟨a1, a2, a3⟩ := GNp.laid h b0 hlt P2 (gn.from b1) mt hi (.int .i64 p.cl) (.int .i64 p.n) (.int .i64 p.i) (.slice pa p.ps.length pc)
    exact ⟨pa, pc, rfl, P2, ⟨pa, pc, rfl, a3, a1, a2⟩⟩
  have d0 : decide (o < 0) = false := decide_eq_false (by omega)
  have d2 : decide (k < 0) = true := decide_eq_true hk
  clear h h0 b0 hlt ho hf hk hk2 hfl ha hq hr
  obtain ⟨pcl, pn, pi, ps⟩ := p
  dsimp only at H3
  go_enter Try.func11, Try.ntmps11
  go_wp2_with fail
  refine HF.out.mono ?_
  rintro e w1 ⟨rfl, b1⟩
  obtain ⟨k3, hp, ht⟩ := H3.out w1 b1
  have HP := Lib.hid hp
  have HT := Lib.hid ht
  clear hp ht b1 H3
  go_wp2_with fail
  refine HP.out.mono ?_
  rintro e w' ⟨rfl, rfl⟩
  go_wp2_with fail
  refine HT.out.mono ?_
  rintro e w2 ⟨pa, pc, rfl, P2, he⟩
  have HE := Lib.hid he
  have HC := Lib.hid (P2.laid (.int .i64 pcl) (.int .i64 pn) (.int .i64 pi) (.slice pa ps.length pc))
  obtain ⟨c0, c1, c2, c3, f0, f1, f2, f3⟩ := P2
  clear he k3
  go_wp2
  obtain ⟨e0, e1, e2, e3, _⟩ := HC.out
  unfold laidP at e0 e1 e2 e3
  refine bodyPost_ret (v := .tuple #[.agg #[.int .i64 pcl, .int .i64 pn, .int .i64 pi, .slice pa ps.length pc], .int .i64 0]) (by simp [results, Try.results11, go_sem, c0, c1, c2, c3]) rfl ?_
  exact HE.out
theorem gplace_any (h : Gw w y x A lab V Q m l r) (o size : Int) (ho1 : o ≤ 9223372036854775807) (hs : size ≤ 9223372036854775807) :
    Calls Try.prog 11 #[.pointer (some ⟨y.g, 0, none⟩), .int .i64 o, .int .i64 size] w (PcEnds y x lab Q m l (placeR (blk y.c) y.c r o size).1 (placeR (blk y.c) y.c r o size).2.1 (placeR (blk y.c) y.c r o size).2.2 w) := by
  unfold placeR
  by_cases h0 : o < 0
  · rw [if_pos h0]
    exact gplace_neg h o size h0
  · rw [if_neg h0]
    by_cases hf : fitsR y.c r size = 0
    · rw [if_neg (by omega)]
      by_cases hk : 0 ≤ pick y.c.xs size
      · rw [if_pos hk]
        exact gplace_small h o size (by omega) ho1 hs hf rfl hk rfl
      · rw [if_neg hk]
        obtain ⟨a1, a2⟩ := fits_large h.gm.may hf hk
        obtain ⟨q, hq⟩ : ∃ q : Nat, allOf size y.c.size = (q : Int) + 1 := ⟨(allOf size y.c.size).toNat - 1, by omega⟩
        obtain ⟨k0, rest, hfl⟩ : ∃ (k0 : Nat) (rest : List Int), r.fl = (k0 : Int) :: rest := by
          cases e : r.fl with
          | nil =>
            rw [e] at a2
            simp at a2
            omega
          | cons z s =>
            obtain ⟨k, ek, _⟩ := h.gm.wf.pool.free z (by rw [e]; simp)
            exact ⟨k, s, by rw [ek]⟩
        have e : (allOf size y.c.size).toNat = q + 1 := by omega
        rw [e]
        rw [hfl, List.length_cons] at a2
        exact gplace_large h o size (by omega) hs hf (by omega) hfl hq (by omega) rfl
    · rw [if_pos hf]
      exact gplace_no h o size (by omega) hs rfl hf
theorem gplace_nil (o size : Int) (w : World) : Calls Try.prog 11 #[.pointer none, .int .i64 o, .int .i64 size] w fun e w' => e = .returned (.tuple #[.agg #[.int .i64 0, .int .i64 0, .int .i64 0, .slice none 0 0], .int .i64 1]) ∧ Below w.heap.size w w' := by
  have H := Lib.hid (fun v => gfits_nil size v)
  have B := Lib.hid (fun (v : World) (b : Below w.heap.size w v) (c0 c1 c2 c3 : Value) => Sh.below_set (Sh.below_set (Sh.below_set (Sh.below_set (p := ⟨w.heap.size, 0, none⟩) b (Nat.le_refl _) c0) (p := ⟨w.heap.size, 1, none⟩) (Nat.le_refl _) c1) (p := ⟨w.heap.size, 2, none⟩) (Nat.le_refl _) c2) (p := ⟨w.heap.size, 3, none⟩) (Nat.le_refl _) c3)
  have b0 := Lib.hid (below1 w zerosP)
  by_cases ho : o < 0
  · have d0 : decide (o < 0) = true := decide_eq_true ho
    clear ho
    go_enter Try.func11, Try.ntmps11
    go_wp2
    refine bodyPost_ret (v := .tuple #[.agg #[.int .i64 0, .int .i64 0, .int .i64 0, .slice none 0 0], .int .i64 1]) (by simp [results, Try.results11, go_sem]) rfl ?_
    exact ⟨rfl, by first | exact B.out _ b0.out _ _ _ _ | exact b0.out⟩
  · have d0 : decide (o < 0) = false := decide_eq_false ho
    clear ho
    go_enter Try.func11, Try.ntmps11
    go_wp2_with fail
    refine (H.out _).mono ?_
    rintro e w1 ⟨rfl, rfl⟩
    go_wp2
    refine bodyPost_ret (v := .tuple #[.agg #[.int .i64 0, .int .i64 0, .int .i64 0, .slice none 0 0], .int .i64 1]) (by simp [results, Try.results11, go_sem]) rfl ?_
    exact ⟨rfl, by first | exact B.out _ b0.out _ _ _ _ | exact b0.out⟩
end
end Go.Proofs.Ytfkegbipfekbdaa.Room
