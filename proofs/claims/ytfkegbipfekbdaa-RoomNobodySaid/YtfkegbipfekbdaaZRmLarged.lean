import Derived.Test.YtfkegbipfekbdaaZRmLarge
/-
  Package room: placeLarge, whole: a large thing that fits.
-/
namespace Go.Proofs.Ytfkegbipfekbdaa.Room
open Go.ChangeShapes Go.WideShapes Go.ChangeAt Go.RowKit
open Sh (Shl Ps Sw Uw Sr Sm Fx Adr Lab Nxt Far nums usedS mem_nums)
set_option maxRecDepth 100000

/-- As GN, and a row of pages that was told lies in a new block, which is none of the room's. -/
def GNp (y : Gx) (x : Nat → Fx) (lab : Nat → Lab) (Q : Nat → Prop) (m : Nat) (r : Rom) (pa : Option Addr) (n : Nat) (w w' : World) : Prop :=
  ∃ A' lab' V' Q', Gm w' y x A' lab' V' Q' r ∧ (∀ i, i < w.heap.size → Ftp y lab' Q' i → Ftp y lab Q i) ∧ But (fun i => Trn y lab i ∨ i = m) w w' ∧ (0 < n → ∃ g o, pa = some ⟨g, o, none⟩ ∧ w.heap.size ≤ g ∧ ¬ Ftp y lab' Q' g)
/-- How placeLarge ends: the place p is told, of the caller's own; the room is r, which is charged. -/
def LgEnds (y : Gx) (x : Nat → Fx) (lab : Nat → Lab) (Q : Nat → Prop) (m : Nat) (l : Int) (r : Rom) (p : Pc) (w : World) (e : Ending) (w' : World) : Prop :=
  ∃ pa pc, e = .returned (.agg #[.int .i64 p.cl, .int .i64 p.n, .int .i64 p.i, .slice pa p.ps.length pc]) ∧ Ints w' w'.heap.size pa p.ps.length p.ps ∧ GNp y x lab Q m r pa p.ps.length w w' ∧ Mt w' m r.st l
section
variable {w w0 w' wr : World} {y : Gx} {x : Nat → Fx} {A : Nat → Adr} {lab : Nat → Lab} {V : Int → Value} {Q : Nat → Prop} {r : Rom} {m : Nat} {l : Int} {g q k0 : Nat} {rest : List Int}
theorem Gw.below (h : Gw w y x A lab V Q m l r) (hb : Below w.heap.size w w') : Gw w' y x A lab V Q m l r := ⟨h.gm.below hb, h.mv, h.mt.below hb, h.mo, h.st⟩
theorem Gw.own (h : Gw w y x A lab V Q m l r) : ¬ Pl.Own y.pp y.pa y.g ∧ ¬ Pl.Own y.pp y.pa m ∧ (∀ i, w.heap.size ≤ i → ¬ Pl.Own y.pp y.pa i) ∧ y.g ≠ m := by
  have a := h.gm.pool.psize
  have b := h.gm.pool.asize
  have z := h.gm.lay.q _ h.gm.lay.g
  refine ⟨fun e => ?_, fun e => h.apart ?_, fun i hi e => ?_, fun e => h.mo (Or.inl (by rw [← e]; exact h.gm.lay.g))⟩
  · rcases e with e | e
    · exact z.2.2.1 e
    · exact z.2.2.2 e
  · rcases e with e | e
    · exact Or.inr (Or.inr (Or.inl e))
    · exact Or.inr (Or.inr (Or.inr e))
  · rcases e with e | e <;> omega
/-- Behind the loop: what is counted, and laid into the map; and what is charged at the end. -/
theorem Gw.laid (h : Gw w y x A lab V Q m l r) (b0 : Below w.heap.size w w0) (p : Pgs w0 wr y (y.c.cn : Int) r.O r.fl rest g q q) (hfl : r.fl = (k0 : Int) :: rest) (hq : q ≤ rest.length) (hlt : w.heap.size < w0.heap.size) (hz : w0.cell? ⟨w.heap.size, 1, none⟩ ≠ none) :
    wr.cell? ⟨y.g, 0, none⟩ = some (.pointer (some ⟨m, 0, none⟩)) ∧ Mt wr m r.st l ∧ ∀ w4, Mt w4 m (r.st + q) l → But (· = m) wr w4 →
      w4.cell? ⟨y.g, 6, none⟩ = some (.map (some y.mm)) ∧ ∃ w5, (Instr.mapUpdate 63 (.map (some y.mm)) (.int .i64 (k0 : Int)) (.slice (some ⟨g, 0, none⟩) q q)).run Try.prog w4 = .ok () w5 ∧ Ints w5 w5.heap.size (some ⟨g, 0, none⟩) q (rest.take q) ∧ w0.heap.size ≤ w5.heap.size ∧ (∀ i, i < w0.heap.size → w.heap.size ≤ i → w5.heap[i]? = w0.heap[i]?) ∧
        ∀ w7, But (· = w.heap.size) w5 w7 → CallsD Try.prog 37 #[.pointer (some ⟨y.g, 0, none⟩), .int .i64 (heldR r)] .returning w7 fun e u' w8 => u' = .returning ∧ (e = .returned (.tuple #[]) ∧ (∀ (pa : Option Addr) (n : Nat), (0 < n → ∃ g6 o6, pa = some ⟨g6, o6, none⟩ ∧ w5.heap.size ≤ g6) → GNp y x lab Q m (layN y.c r (q + 1)).1 pa n w w8) ∧ Mt w8 m (layN y.c r (q + 1)).1.st l ∧ But (· = m) w7 w8) := by
  obtain ⟨og, om, on, gm⟩ := h.own
  have h0 := h.below b0
  have bt := p.bt
  have lo := p.lo
  have s0 := b0.size
  have c0 := (h0.gm.cl.but bt og (h0.gm.lay.q _ h0.gm.lay.sb |> fun z e => by rcases e with e | e; exact z.2.2.1 e; exact z.2.2.2 e))
  have k0c := c0.k0
  rw [h.mv] at k0c
  have mr := h0.mt.but bt om
  refine ⟨k0c, mr, fun w4 m4 b4 => ?_⟩
  have mg : m ≠ g := by have := h.ms; omega
  have c4 : Gc w4 y x := c0.but b4 gm (fun e => h.mo (Or.inl (by rw [← e]; exact h.gm.lay.sb)))
  have bt4 : But (fun i => Pl.Own y.pp y.pa i ∨ i = m) w0 w4 := (bt.mono fun _ _ z => Or.inl z).then b4 fun i _ e => Or.inr e
  have notm : ∀ i, Trn y lab i → i ≠ m := fun i z e => h.apart (by rw [← e]; exact z)
  have map4 : Lm w4 y.mm (firsts r.lg) V := h0.gm.map.but bt4 (fun e => by
    rcases e with (e | e) | e
    · exact h.gm.lay.mm.2.1 e
    · exact h.gm.lay.mm.2.2 e
    · exact notm y.mm (Or.inr (Or.inl rfl)) e)
  have wfp := h.gm.wf.pool
  have notin : (k0 : Int) ∉ firsts r.lg := fun z => by
    obtain ⟨j, e, hj, hO⟩ := h.gm.wf.lgo _ (firsts_sub z)
    obtain ⟨j', e', hO'⟩ := wfp.free (k0 : Int) (by rw [hfl]; simp)
    have : j = j' := by omega
    subst this
    rw [hO] at hO'
    have := Option.some.inj hO'
    omega
  have few : (firsts r.lg).length ≤ 1024 := by
    have := h.gm.wf.sum
    have := h.gm.k2
    have e : (firsts r.lg).length = r.lg.length := by simp [firsts]
    have lf : ∀ l : List (Int × List Int), l.length ≤ (lgAll l).length := fun l => by
      induction l with
      | nil => exact Nat.le_refl _
      | cons q s ih =>
        have e : lgAll (q :: s) = (q.1 :: q.2) ++ lgAll s := by simp [lgAll]
        rw [e, List.length_append, List.length_cons, List.length_cons]
        omega
    have := lf r.lg
    omega
  have kfit : Pl.Fit (k0 : Int) := by
    obtain ⟨j', e', hO'⟩ := wfp.free (k0 : Int) (by rw [hfl]; simp)
    obtain ⟨hj, _⟩ := List.getElem?_eq_some_iff.1 hO'
    have := wfp.len
    have := h.gm.k2
    unfold Pl.Fit
    omega
  obtain ⟨w5, hr5, m5, b5⟩ := map4.put notin kfit few (.slice (some ⟨g, 0, none⟩) q q)
  have row5 : IRow w5 g (rowJ rest q q) := (p.row.but b4 (Ne.symm mg)).but b5 (fun e => by have := h.gm.map.lt; omega)
  have rq : rowJ rest q q = rest.take q := by unfold rowJ; rw [Nat.sub_self]; simp
  have i5 : Ints w5 w5.heap.size (some ⟨g, 0, none⟩) q (rest.take q) := by
    have := row5.ints
    rw [rowJ_len (Nat.le_refl _) hq, rq] at this
    exact this
  have p5 : Pl.Pm w5 y.pp y.pa y.K (takeN (q + 1) (y.c.cn : Int) r.O r.fl).1 (rest.drop q) := by
    have np : ∀ i, i = y.pp ∨ i = y.pa → i ≠ m := fun i z => notm i (Or.inr (Or.inr z))
    have p4 := p.pm.but b4 (np _ (Or.inl rfl)) (np _ (Or.inr rfl)) (Mt.far mr)
    refine p4.but b5 (Ne.symm h.gm.lay.mm.2.1) (Ne.symm h.gm.lay.mm.2.2) (fun i e _ v hv => ?_)
    rw [e, map4.nocell] at hv
    cases hv
  have b05 : But (fun i => (Pl.Own y.pp y.pa i ∨ i = m) ∨ i = y.mm) w0 w5 := (bt4.mono fun _ _ z => Or.inl z).then b5 fun i _ e => Or.inr e
  have lt5 : ∀ i, (Pl.Own y.pp y.pa i ∨ i = m) ∨ i = y.mm → i < w.heap.size := fun i e => by
    have a := h.gm.pool.psize
    have b := h.gm.pool.asize
    have c := h.gm.map.lt
    have d := h.ms
    rcases e with ((e | e) | e) | e <;> omega
  refine ⟨c4.k6, w5, hr5, i5, b05.size, fun i hi hw => b05.block i hi (fun e => by have := lt5 i e; omega), fun w7 b7 => ?_⟩
  have b57 : But (fun i => ((Pl.Own y.pp y.pa i ∨ i = m) ∨ i = y.mm) ∨ i = w.heap.size) w w7 := ((Below.but b0 _).trans (b05.mono fun _ _ z => Or.inl z)).then b7 fun i hi e => Or.inr e
  have gne : g ≠ w.heap.size := by omega
  have row7 : IRow w7 g (rowJ rest q q) := row5.but b7 gne
  have i7 : Ints w7 w7.heap.size (some ⟨g, 0, none⟩) q (rest.take q) := by
    have := row7.ints
    rw [rowJ_len (Nat.le_refl _) hq, rq] at this
    exact this
  have far7 : Far w5 (· = w.heap.size) := fun i e _ v _ => by
    rw [e]
    have : w5.cell? ⟨w.heap.size, 1, none⟩ = w0.cell? ⟨w.heap.size, 1, none⟩ := b05.cell (p := ⟨w.heap.size, 1, none⟩) hlt (fun e => absurd (show w.heap.size < w.heap.size from lt5 _ e) (Nat.lt_irrefl _))
    rw [this]
    exact hz
  have p7 := p5.but b7 (fun e => by have := h.gm.pool.psize; omega) (fun e => by have := h.gm.pool.asize; omega) far7
  have m7 := m5.but b7 (fun e => by have := h.gm.map.lt; omega)
  have hS : ∀ i, i < w.heap.size → (((Pl.Own y.pp y.pa i ∨ i = m) ∨ i = y.mm) ∨ i = w.heap.size) → i = y.pp ∨ i = y.pa ∨ i = y.mm ∨ ¬ Ftp y lab Q i := fun i hi s => by
    rcases s with (((e | e) | e) | e) | e
    · exact Or.inl e
    · exact Or.inr (Or.inl e)
    · exact Or.inr (Or.inr (Or.inr (by rw [e]; exact h.mo)))
    · exact Or.inr (Or.inr (Or.inl e))
    · omega
  have gm7 := h.gm.lays b57 hS hfl hq p7 m7 (g := g) (by omega) i7 row7.lt
  have mt7 : Mt w7 m (r.st + q) l := ((m4.but b5 (fun e => notm y.mm (Or.inr (Or.inl rfl)) e.symm)).but b7 (fun e => by have := h.ms; omega))
  have hst := h.st
  have K2 := h.gm.k2
  have f1 := wfp.few
  rw [hfl, List.length_cons] at f1
  have eh : max (heldR r) (heldR (layN y.c r (q + 1)).1) - min (heldR r) (heldR (layN y.c r (q + 1)).1) = (q : Int) + 1 := by
    rw [h.gm.held.2.2, gm7.held.2.2, lay_is hfl y.c q hq wfp h.gm.n16, hfl]
    simp only [List.length_cons, List.length_drop]
    omega
  refine (gcharge_any gm7 h.mv mt7 (by omega) (heldR r) ((q : Int) + 1) eh (by omega) .returning).mono ?_
  rintro e u' w8 ⟨rfl, rfl, m8, b8⟩
  have est : (layN y.c r (q + 1)).1.st = r.st + q + 4 * ((q : Int) + 1) := by
    rw [lay_is hfl y.c q hq wfp h.gm.n16]
    show r.st + 4 * ((q + 1 : Nat) : Int) + ((q + 1 : Nat) : Int) - 1 = _
    omega
  have mo7 : ∀ i, i = m → ¬ Ftp y lab (fun i => Q i ∨ i = g) i := fun i e z => h.mo (ftp_lay (g := g) h.ms (by omega) (by rw [← e]; exact z))
  have b08 : But (fun i => Trn y lab i ∨ i = m) w w8 := by
    refine (b57.mono fun i hi s => ?_).then b8 (fun i _ e => Or.inr e)
    rcases s with (((e | e) | e) | e) | e
    · exact Or.inl (Or.inr (Or.inr (Or.inl e)))
    · exact Or.inl (Or.inr (Or.inr (Or.inr e)))
    · exact Or.inr e
    · exact Or.inl (Or.inr (Or.inl e))
    · omega
  have g5 := row5.lt
  have s5 := b05.size
  refine ⟨rfl, rfl, fun pa n hpa => ⟨A, lab, _, _, gm7.but b8 mo7 (Mt.far mt7), fun i hi z => ftp_lay (g := g) hi (by omega) z, b08, fun z => ?_⟩, by rw [est]; exact m8, b8⟩
  obtain ⟨g6, o6, e, h6⟩ := hpa z
  refine ⟨g6, o6, e, by omega, fun q => ?_⟩
  rcases q with (q | q) | q
  · have := h.gm.ftp (Or.inl q)
    omega
  · omega
  · have := h.gm.ftp (Or.inr q)
    omega
abbrev zerosP : Obj := .cells #[.int .i64 0, .int .i64 0, .int .i64 0, .slice none 0 0] 36
/-- The result's variable, in block p. -/
structure Pr (v : World) (p : Nat) : Prop where
  c0 : v.cell? ⟨p, 0, none⟩ = some (.int .i64 0)
  c1 : v.cell? ⟨p, 1, none⟩ = some (.int .i64 0)
  c2 : v.cell? ⟨p, 2, none⟩ = some (.int .i64 0)
  c3 : v.cell? ⟨p, 3, none⟩ = some (.slice none 0 0)
  f0 : v.frozen? ⟨p, 0, none⟩ = false
  f1 : v.frozen? ⟨p, 1, none⟩ = false
  f2 : v.frozen? ⟨p, 2, none⟩ = false
  f3 : v.frozen? ⟨p, 3, none⟩ = false
theorem Pr.block {v v' : World} {p : Nat} (h : Pr v p) (e : v'.heap[p]? = v.heap[p]?) : Pr v' p := by
  have c : ∀ o, v'.cell? ⟨p, o, none⟩ = v.cell? ⟨p, o, none⟩ := fun o => World.cell?_of_block (w := v) (a := ⟨p, o, none⟩) e
  have f : ∀ o, v'.frozen? ⟨p, o, none⟩ = v.frozen? ⟨p, o, none⟩ := fun o => World.frozen?_of_block (w := v) (a := ⟨p, o, none⟩) e
  exact ⟨(c 0).trans h.c0, (c 1).trans h.c1, (c 2).trans h.c2, (c 3).trans h.c3, (f 0).trans h.f0, (f 1).trans h.f1, (f 2).trans h.f2, (f 3).trans h.f3⟩
/-- Laid. -/
def laidP (v : World) (p : Nat) (a b c d : Value) : World := (((v.setCell ⟨p, 0, none⟩ a).setCell ⟨p, 1, none⟩ b).setCell ⟨p, 2, none⟩ c).setCell ⟨p, 3, none⟩ d
theorem Pr.laid {v : World} {p : Nat} (h : Pr v p) (a b c d : Value) : (laidP v p a b c d).cell? ⟨p, 0, none⟩ = some a ∧ (laidP v p a b c d).cell? ⟨p, 1, none⟩ = some b ∧ (laidP v p a b c d).cell? ⟨p, 2, none⟩ = some c ∧ (laidP v p a b c d).cell? ⟨p, 3, none⟩ = some d ∧ But (· = p) v (laidP v p a b c d) := by
  have h0 := h.c0
  have h1 := h.c1
  have h2 := h.c2
  have h3 := h.c3
  unfold laidP
  refine ⟨?_, ?_, ?_, ?_, ((((But.refl (· = p) v).setCell (p := ⟨p, 0, none⟩) (fun _ => rfl) _).setCell (p := ⟨p, 1, none⟩) (fun _ => rfl) _).setCell (p := ⟨p, 2, none⟩) (fun _ => rfl) _).setCell (p := ⟨p, 3, none⟩) (fun _ => rfl) _⟩
  · rw [World.cell?_setCell_other _ _ _ _ (by simp), World.cell?_setCell_other _ _ _ _ (by simp), World.cell?_setCell_other _ _ _ _ (by simp)]
    exact World.cell?_setCell_same _ _ _ h0
  · rw [World.cell?_setCell_other _ _ _ _ (by simp), World.cell?_setCell_other _ _ _ _ (by simp)]
    refine World.cell?_setCell_same _ _ _ (show _ = some (.int .i64 0) from ?_)
    rw [World.cell?_setCell_other _ _ _ _ (by simp)]
    exact h1
  · rw [World.cell?_setCell_other _ _ _ _ (by simp)]
    refine World.cell?_setCell_same _ _ _ (show _ = some (.int .i64 0) from ?_)
    rw [World.cell?_setCell_other _ _ _ _ (by simp), World.cell?_setCell_other _ _ _ _ (by simp)]
    exact h2
  · refine World.cell?_setCell_same _ _ _ (show _ = some (.slice none 0 0) from ?_)
    rw [World.cell?_setCell_other _ _ _ _ (by simp), World.cell?_setCell_other _ _ _ _ (by simp), World.cell?_setCell_other _ _ _ _ (by simp)]
    exact h3
theorem Pr.new (w : World) : Pr (w.alloc zerosP) w.heap.size := ⟨by go_simp, by go_simp, by go_simp, by go_simp, by go_simp, by go_simp, by go_simp, by go_simp⟩
set_option maxHeartbeats 4000000 in
theorem glarge_any (h : Gw w y x A lab V Q m l r) (size : Int) (hs : size ≤ 9223372036854775807) (hfl : r.fl = (k0 : Int) :: rest) (ha : allOf size y.c.size = (q : Int) + 1) (hq : q ≤ rest.length) :
    Calls Try.prog 35 #[.pointer (some ⟨y.g, 0, none⟩), .int .i64 size] w (LgEnds y x lab Q m l (layN y.c r (q + 1)).1 (layN y.c r (q + 1)).2 w) := by
  have b0 : Below w.heap.size w (w.alloc zerosP) := below1 w _
  have s0 : (w.alloc zerosP).heap.size = w.heap.size + 1 := by simp
  have R0 := Lib.hid (Pr.new w)
  have hz : (w.alloc zerosP).cell? ⟨w.heap.size, 1, none⟩ ≠ none := by rw [(Pr.new w).c1]; simp
  have h0 := h.below b0
  obtain ⟨og, om, on, gm⟩ := h0.own
  have n16 := h.gm.n16
  have f1 := h.gm.wf.pool.few
  have K2 := h.gm.k2
  rw [hfl, List.length_cons] at f1
  have k1 := h0.gm.cl.k1
  have eh : (y.K : Int) - (r.fl.length : Int) = heldR r := h0.gm.held.2.2.symm
  have HH := Lib.hid (Pl.held_any h0.gm.pool)
  rw [eh] at HH
  have two0 : Two (w.alloc zerosP) y := ⟨h0.gm.cl.k1, h0.gm.cl.k2⟩
  have pm0 := h0.gm.pool
  rw [hfl] at pm0
  have cl0 := pm0.th.clo
  have HP : Hid (∀ n, Calls Try.prog 59 #[.pointer (some ⟨y.g, 0, none⟩)] ((w.alloc zerosP).drewN n) fun e w' => e = .returned (.int .i64 (k0 : Int)) ∧ Pl.Pm w' y.pp y.pa y.K (r.O.set k0 (y.c.cn : Int)) rest ∧ Pl.Clo w' y.pa (w.alloc zerosP).heap.size rest ∧ But (Pl.Own y.pp y.pa) ((w.alloc zerosP).drewN n) w') := Lib.hid fun n => by
    have bn := (But.refl (fun _ => False) (w.alloc zerosP)).drewN n
    exact gpage_any (two0.but bn id) og (pm0.but bn id id (fun _ z => z.elim)) (cl0.but bn id pm0.asize) n16
  have HA := Lib.hid (fun v => all_any size y.c.size v hs)
  rw [ha] at HA
  have HW2 : Hid (wrap64 (q : Int) = (q : Int)) := Lib.hid (IntWalk.wrap64_in _ (by omega))
  have hmk := make_ints q (by omega)
  have HW3 : Hid (IntKind.i64.wrap ((q : Int) * 1) = (q : Int) ∧ wrap64 (q : Int) = (q : Int)) := Lib.hid (by rw [Int.mul_one]; exact ⟨IntWalk.i64_in _ (by omega), IntWalk.wrap64_in _ (by omega)⟩)
  have hst := h.st
  have em : more r.st (q : Int) = r.st + q := by unfold more; split <;> omega
  -- what holds at the loop's beginning
  have HS : Hid (∀ n w1 w2, But (Pl.Own y.pp y.pa) ((w.alloc zerosP).drewN n) w1 → Pl.Pm w1 y.pp y.pa y.K (r.O.set k0 (y.c.cn : Int)) rest → Pl.Clo w1 y.pa (w.alloc zerosP).heap.size rest → Below w1.heap.size w1 w2 → Pgs (w.alloc zerosP) (w2.alloc (noInts q)) y (y.c.cn : Int) r.O r.fl rest w2.heap.size q 0) := Lib.hid fun n w1 w2 b1 p1 c1 b2 => by
    have b3 := below1 w2 (noInts q)
    have b13 : Below w1.heap.size w1 (w2.alloc (noInts q)) := belowT b2 b3
    have b01 : But (Pl.Own y.pp y.pa) (w.alloc zerosP) w1 := ((But.refl _ (w.alloc zerosP)).drewN n).trans b1
    have bf := Below.but b13 (fun _ => False)
    have z1 := b01.size
    have z2 := b2.size
    refine ⟨?_, fun x hx b hb => ?_, ?_, b01.trans (Below.but b13 _), (two0.but b01 og).but bf id, by omega⟩
    · rw [hfl]
      simp only [takeN, Int.toNat_natCast]
      exact p1.below b13
    · have := (c1.but bf id p1.asize) x hx b hb
      omega
    · have := IRow.new w2 q (by omega)
      unfold rowJ
      simpa using this
  have HR : Hid (∀ g j wr, Pgs (w.alloc zerosP) wr y (y.c.cn : Int) r.O r.fl rest g q j → j < q → ∃ v : Nat, rest[j]? = some (v : Int) ∧ Calls Try.prog 59 #[.pointer (some ⟨y.g, 0, none⟩)] wr fun e w' => e = .returned (.int .i64 (v : Int)) ∧ w'.frozen? ⟨g, j, none⟩ = false ∧ w'.cell? ⟨g, j, none⟩ = some (.int .i64 0) ∧ Pgs (w.alloc zerosP) (w'.setCell ⟨g, j, none⟩ (.int .i64 (v : Int))) y (y.c.cn : Int) r.O r.fl rest g q (j + 1)) := Lib.hid fun g j wr p hj => by
    obtain ⟨z, hx⟩ : ∃ z, rest[j]? = some z := ⟨_, List.getElem?_eq_getElem (by omega)⟩
    have pm := p.pm
    have cl := p.clo
    rw [drop_here hx] at pm cl
    obtain ⟨v, e, _⟩ := pm.wf.free z (by simp)
    rw [e] at hx pm cl
    refine ⟨v, hx, (gpage_any p.two og pm cl n16).mono ?_⟩
    rintro e2 w5 ⟨rfl, p5, c5, b5⟩
    have hg := p.lo
    have hgg := h0.gm.cl.gl
    obtain ⟨a1, a2, a3⟩ := p.take (on g hg) og (by omega) hj hq (by rw [hfl, List.getElem?_cons_succ]) hx p5 c5 b5
    exact ⟨rfl, a1, a2, a3⟩
  have HL : Hid (∀ g wr, Pgs (w.alloc zerosP) wr y (y.c.cn : Int) r.O r.fl rest g q q → _) := Lib.hid fun g wr p => h.laid b0 p hfl hq (by omega) hz
  have lay := lay_is hfl y.c q hq h.gm.wf.pool n16
  have EP : Hid ((layN y.c r (q + 1)).2 = ⟨-1, (k0 : Int), 0, rest.take q⟩) := Lib.hid (by rw [lay])
  have QL : Hid ((rest.take q).length = q) := Lib.hid (by rw [List.length_take]; omega)
  have QK : Hid (q ≤ 1024) := Lib.hid (by omega)
  have HK4 : Hid (∀ n w1, But (Pl.Own y.pp y.pa) ((w.alloc zerosP).drewN n) w1 → w1.cell? ⟨y.g, 4, none⟩ = some (.int .i64 y.c.size)) := Lib.hid fun n w1 b1 => (b1.cell (p := ⟨y.g, 4, none⟩) h0.gm.cl.gl og).trans h0.gm.cl.k4
  have PN : Hid (w.heap.size < (w.alloc zerosP).heap.size) := Lib.hid (by omega)
  have NM : Hid (m < w.heap.size) := Lib.hid h.ms
  clear lay h h0 hfl two0 pm0 cl0 og om on gm f1 K2 n16 hq ha eh hst s0 b0 hz
  have hw2 := HW2.out
  go_enter_defers Try.func35, Try.ntmps35
  go_wp2_with fail
  refine HH.out.mono ?_
  rintro e w' ⟨rfl, n, rfl⟩
  go_wp2_with fail
  refine (HP.out n).mono ?_
  rintro e w1 ⟨rfl, p1, c1, b1⟩
  have k4 := HK4.out n w1 b1
  have HB1 := Lib.hid (And.intro b1 (And.intro p1 c1))
  clear p1 c1 b1
  go_wp2_with fail
  refine (HA.out w1).mono ?_
  rintro e w2 ⟨rfl, f⟩
  have HS0 := Lib.hid (HS.out n w1 w2 HB1.out.1 HB1.out.2.1 HB1.out.2.2 f.below)
  clear f k4 HS HP HB1 HK4
  go_wp2
  generalize w2.alloc (noInts q) = w3 at HS0 ⊢
  generalize w2.heap.size = g at HS0 ⊢
  clear hmk HA hw2 HW2
  go_loopw [26, 7] (fun i _ wr => ∃ j : Nat, j ≤ q ∧ i = .int .i64 (j : Int) ∧ Pgs (w.alloc zerosP) wr y (y.c.cn : Int) r.O r.fl rest g q j) (fun i _ _ => q - (intOf i).toNat)
  case atStart => exact ⟨0, by omega, rfl, HS0.out⟩
  case round =>
    obtain ⟨j, hj, rfl, hp⟩ := hrel
    have qk := QK.out
    by_cases hlt : j < q
    · have dj : decide ((j : Int) < (q : Int)) = true := decide_eq_true (by omega)
      have dj' : decide (j < q) = true := decide_eq_true hlt
      obtain ⟨v, hv, hc⟩ := HR.out g j wr hp hlt
      have HC := Lib.hid hc
      clear hc hp hv HL
      go_wp2_with fail
      refine HC.out.mono ?_
      rintro e w5 ⟨rfl, f5, c5, p5⟩
      have HP5 := Lib.hid p5
      clear p5
      go_wp2
      go_round
      case rel => exact ⟨j + 1, by omega, by go_num, HP5.out⟩
      case measure => simp [intOf]; omega
    · have dj : decide ((j : Int) < (q : Int)) = false := decide_eq_false (by omega)
      have dj' : decide (j < q) = false := decide_eq_false hlt
      obtain rfl : j = q := by omega
      obtain ⟨c0, mr, hl⟩ := HL.out g wr hp
      have HC := Lib.hid (charge_any m r.st l (j : Int) wr mr)
      rw [em] at HC
      have HF := Lib.hid hl
      have hw3 := HW3.out.1
      have hw4 := HW3.out.2
      clear hl mr hp HL HR
      go_wp2_with fail
      refine HC.out.mono ?_
      rintro e w4 ⟨rfl, m4, b4⟩
      obtain ⟨c6, w5, hr5, i5, sz5, bl5, h5⟩ := HF.out w4 m4 b4
      clear hw3 hw4
      have HR5 := Lib.hid hr5
      have HT := Lib.hid (clone_any (some ⟨g, 0, none⟩) j j (rest.take j) w5 i5 QK.out)
      have HE := Lib.hid h5
      have P5 := Lib.hid (R0.out.block (bl5 w.heap.size PN.out (Nat.le_refl _)))
      have S5 := Lib.hid sz5
      clear m4 b4 hr5 i5 h5 bl5 sz5 HF R0
      go_wp2_with (at_mapUpdate; refine Pg.wpList_mapUpdate_run rfl _ _ _ _ rfl rfl rfl rfl HR5.out ?_)
      refine HT.out.mono ?_
      rintro e w6 ⟨pa, pc, rfl, i6, own6, b6⟩
      have P6 := P5.out.block (v' := w6) (b6.block _ (by have := PN.out; have := S5.out; omega))
      obtain ⟨e0, e1, e2, e3, b7⟩ := P6.laid (.int .i64 (-1)) (.int .i64 (k0 : Int)) (.int .i64 0) (.slice pa j pc)
      have HE7 := Lib.hid (HE.out (laidP w6 w.heap.size (.int .i64 (-1)) (.int .i64 (k0 : Int)) (.int .i64 0) (.slice pa j pc)) ((Below.but b6 _).trans b7))
      have HI : Hid (∀ w8, But (· = m) (laidP w6 w.heap.size (.int .i64 (-1)) (.int .i64 (k0 : Int)) (.int .i64 0) (.slice pa j pc)) w8 → Ints w8 w8.heap.size pa j (rest.take j) ∧ w8.cell? ⟨w.heap.size, 0, none⟩ = some (.int .i64 (-1)) ∧ w8.cell? ⟨w.heap.size, 1, none⟩ = some (.int .i64 (k0 : Int)) ∧ w8.cell? ⟨w.heap.size, 2, none⟩ = some (.int .i64 0) ∧ w8.cell? ⟨w.heap.size, 3, none⟩ = some (.slice pa j pc)) := Lib.hid fun w8 b8 => by
        have nm := NM.out
        have pn := PN.out
        have s5 := S5.out
        have s6 := b6.size
        have s7 := b7.size
        have cc : ∀ o, w8.cell? ⟨w.heap.size, o, none⟩ = (laidP w6 w.heap.size (.int .i64 (-1)) (.int .i64 (k0 : Int)) (.int .i64 0) (.slice pa j pc)).cell? ⟨w.heap.size, o, none⟩ := fun o => b8.cell (p := ⟨w.heap.size, o, none⟩) (show w.heap.size < _ by omega) (fun e => absurd e (by show ¬ w.heap.size = m; omega))
        have bb : But (fun i => i = w.heap.size ∨ i = m) w6 w8 := (b7.mono fun _ _ e => Or.inl e).then b8 fun _ _ e => Or.inr e
        refine ⟨(i6.far bb (Nat.le_refl _) fun z => ?_).more bb.size, (cc 0).trans e0, (cc 1).trans e1, (cc 2).trans e2, (cc 3).trans e3⟩
        obtain ⟨g6, o6, e, hg, _⟩ := own6.2 z
        exact ⟨g6, o6, e, by omega⟩
      have p0 := P6.f0
      have p1 := P6.f1
      have p2 := P6.f2
      have p3 := P6.f3
      have z0 := P6.c0
      have z1 := P6.c1
      have z2 := P6.c2
      have z3 := P6.c3
      have HO : Hid (0 < j → ∃ g o, pa = some ⟨g, o, none⟩ ∧ w5.heap.size ≤ g) := Lib.hid fun z => by
        obtain ⟨g6, o6, e, hg, _⟩ := own6.2 z
        exact ⟨g6, o6, e, hg⟩
      clear i6 b6 b7 e0 e1 e2 e3 P6 HE own6
      go_wp2
      refine leaves_cons (f := 37) (args := #[.pointer (some ⟨y.g, 0, none⟩), .int .i64 (heldR r)]) (by simp) (by simp [go_sem]) ?_
      refine HE7.out.mono ?_
      rintro e u' w8 ⟨rfl, rfl, gn, m8, b8⟩
      obtain ⟨i8, d0, d1, d2, d3⟩ := HI.out w8 b8
      have HG := Lib.hid (And.intro gn (And.intro m8 i8))
      clear gn m8 i8 b8 z0 z1 z2 z3 p0 p1 p2 p3
      refine ⟨.agg #[.int .i64 (-1), .int .i64 (k0 : Int), .int .i64 0, .slice pa j pc], by simp [results, Try.results35, go_sem, d0, d1, d2, d3], ?_⟩
      refine ⟨pa, pc, ?_, ?_, by rw [EP.out]; dsimp only; rw [QL.out]; exact HG.out.1 pa _ HO.out, HG.out.2.1⟩
      · rw [EP.out]
        dsimp only
        rw [QL.out]
      · rw [EP.out]
        dsimp only
        rw [QL.out]
        exact HG.out.2.2
end
end Go.Proofs.Ytfkegbipfekbdaa.Room
