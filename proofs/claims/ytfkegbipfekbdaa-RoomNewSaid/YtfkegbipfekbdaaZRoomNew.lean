import Derived.Test.YtfkegbipfekbdaaZRmLet
import Derived.Test.YtfkegbipfekbdaaZRoomNum
/-
  Package room: Drop of any arguments.
-/
namespace Go.Proofs.Ytfkegbipfekbdaa.Room
open Go.ChangeShapes Go.WideShapes Go.ChangeAt Go.RowKit
open Sh (Shl Ps Sw Uw Sr Sm Fx Adr Lab Nxt Far nums usedS mem_nums)
set_option maxRecDepth 100000

abbrev boxP (cl n i : Int) (pa : Option Addr) (pl pc : Nat) : Obj := .cells #[.int .i64 cl, .int .i64 n, .int .i64 i, .slice pa pl pc] 36
/-- The argument's box. -/
structure Bp (v : World) (b : Nat) (cl n i : Int) (pa : Option Addr) (pl pc : Nat) : Prop where
  c0 : v.cell? ⟨b, 0, none⟩ = some (.int .i64 cl)
  c1 : v.cell? ⟨b, 1, none⟩ = some (.int .i64 n)
  c2 : v.cell? ⟨b, 2, none⟩ = some (.int .i64 i)
  c3 : v.cell? ⟨b, 3, none⟩ = some (.slice pa pl pc)
section
variable {w w1 w2 : World} {y : Gx} {x : Nat → Fx} {A : Nat → Adr} {lab : Nat → Lab} {V : Int → Value} {Q : Nat → Prop} {r r' : Rom} {m b : Nat} {l cl n i : Int} {pa : Option Addr} {pl pc : Nat}
theorem Bp.new (w : World) (cl n i : Int) (pa : Option Addr) (pl pc : Nat) : Bp (w.alloc (boxP cl n i pa pl pc)) w.heap.size cl n i pa pl pc := ⟨by go_simp, by go_simp, by go_simp, by go_simp⟩
theorem Bp.on (h : Bp w b cl n i pa pl pc) (hb : Below w.heap.size w w1) : Bp w1 b cl n i pa pl pc := by
  have hl : b < w.heap.size := lt_of_cell (p := ⟨b, 0, none⟩) h.c0
  exact ⟨(hb.cell (p := ⟨b, 0, none⟩) hl).trans h.c0, (hb.cell (p := ⟨b, 1, none⟩) hl).trans h.c1, (hb.cell (p := ⟨b, 2, none⟩) hl).trans h.c2, (hb.cell (p := ⟨b, 3, none⟩) hl).trans h.c3⟩
theorem Bp.but {S : Nat → Prop} (h : Bp w b cl n i pa pl pc) (hb : But S w w1) (hn : ¬ S b) : Bp w1 b cl n i pa pl pc := by
  have hl : b < w.heap.size := lt_of_cell (p := ⟨b, 0, none⟩) h.c0
  exact ⟨(hb.cell (p := ⟨b, 0, none⟩) hl hn).trans h.c0, (hb.cell (p := ⟨b, 1, none⟩) hl hn).trans h.c1, (hb.cell (p := ⟨b, 2, none⟩) hl hn).trans h.c2, (hb.cell (p := ⟨b, 3, none⟩) hl hn).trans h.c3⟩
theorem Bp.lt (h : Bp w b cl n i pa pl pc) : b < w.heap.size := lt_of_cell (p := ⟨b, 0, none⟩) h.c0
theorem gdrop_small (h : Gw w y x A lab V Q m l r) (p : Pc) (pa : Option Addr) (pl pc : Nat) (hn : Pl.Fit p.n) (hc : 0 ≤ p.cl) :
    Calls Try.prog 14 #[.pointer (some ⟨y.g, 0, none⟩), .agg #[.int .i64 p.cl, .int .i64 p.n, .int .i64 p.i, .slice pa pl pc]] w (GmEnds (.int .i64 (giveR r p.cl p.n p.i).2) y x lab Q m l (giveR r p.cl p.n p.i).1 w) := by
  obtain ⟨cl, n, i, ps⟩ := p
  dsimp only at hn hc ⊢
  have b0 := below1 w (boxP cl n i pa pl pc)
  have HG := Lib.hid (ggive_any (h.below b0) cl n i hn)
  have HF : Hid (∀ v, GN y x lab Q m (giveR r cl n i).1 (w.alloc (boxP cl n i pa pl pc)) v → GN y x lab Q m (giveR r cl n i).1 w v) := Lib.hid fun v g => g.from b0
  obtain ⟨c0, c1, c2, c3⟩ := Bp.new w cl n i pa pl pc
  have d0 : decide (0 ≤ cl) = true := decide_eq_true hc
  clear h hn hc b0
  go_enter Try.func14, Try.ntmps14
  go_wp2_with fail
  refine HG.out.mono ?_
  rintro e w2 ⟨rfl, gn, mt⟩
  have HE := Lib.hid (And.intro (HF.out _ gn) mt)
  clear gn mt
  go_wp2
  go_ret
  exact ⟨rfl, HE.out.1, HE.out.2⟩
theorem gdrop_none (h : Gw w y x A lab V Q m l r) (p : Pc) (pa : Option Addr) (pl pc : Nat) (hps : Ints w w.heap.size pa pl p.ps) (hn : Pl.Fit p.n) (hc : p.cl < 0) (hx : ¬ (p.cl = -1 ∧ (p.n, p.ps) ∈ r.lg)) :
    Calls Try.prog 14 #[.pointer (some ⟨y.g, 0, none⟩), .agg #[.int .i64 p.cl, .int .i64 p.n, .int .i64 p.i, .slice pa pl pc]] w (GmEnds (.int .i64 1) y x lab Q m l r w) := by
  have b0 := below1 w (boxP p.cl p.n p.i pa pl pc)
  have HH : Hid (Calls Try.prog 41 #[.pointer (some ⟨y.g, 0, none⟩), .agg #[.int .i64 p.cl, .int .i64 p.n, .int .i64 p.i, .slice pa pl pc]] (w.alloc (boxP p.cl p.n p.i pa pl pc)) (BB false (w.alloc (boxP p.cl p.n p.i pa pl pc)))) := Lib.hid (by
    by_cases h1 : p.cl = -1
    · exact ghas_large (h.below b0).gm p pa pl pc (hps.on b0) hn h1 (decide_eq_false (fun z => hx ⟨h1, z⟩)).symm
    · exact ghas_off y.g p pa pl pc h1 _)
  have HF : Hid (∀ v, Below (w.alloc (boxP p.cl p.n p.i pa pl pc)).heap.size (w.alloc (boxP p.cl p.n p.i pa pl pc)) v → GN y x lab Q m r w v ∧ Mt v m r.st l) := Lib.hid fun v bv => by
    have h1 := (h.below b0).below bv
    exact ⟨(GN.same h1).from (belowT b0 bv), h1.mt⟩
  obtain ⟨c0, c1, c2, c3⟩ := Bp.new w p.cl p.n p.i pa pl pc
  have d0 : decide (0 ≤ p.cl) = false := decide_eq_false (by omega)
  obtain ⟨cl, n, i, ps⟩ := p
  dsimp only at *
  clear h hn hc b0 hps hx
  go_enter Try.func14, Try.ntmps14
  go_wp2_with fail
  refine HH.out.mono ?_
  rintro e w2 ⟨rfl, b2⟩
  have HE := Lib.hid (HF.out _ b2)
  clear b2
  go_wp2
  go_ret
  exact ⟨rfl, HE.out.1, HE.out.2⟩
theorem gdrop_large (h : Gw w y x A lab V Q m l r) (p : Pc) (pa : Option Addr) (pl pc : Nat) (hps : Ints w w.heap.size pa pl p.ps) (hpa : 0 < pl → ∃ b o, pa = some ⟨b, o, none⟩ ∧ ¬ Ftp y lab Q b ∧ b ≠ m) (hn : Pl.Fit p.n) (hc : p.cl = -1) (hx : (p.n, p.ps) ∈ r.lg) :
    Calls Try.prog 14 #[.pointer (some ⟨y.g, 0, none⟩), .agg #[.int .i64 p.cl, .int .i64 p.n, .int .i64 p.i, .slice pa pl pc]] w (GmEnds (.int .i64 0) y x lab Q m l (goN r (p.n, p.ps)) w) := by
  have b0 := below1 w (boxP p.cl p.n p.i pa pl pc)
  have HH : Hid (Calls Try.prog 41 #[.pointer (some ⟨y.g, 0, none⟩), .agg #[.int .i64 p.cl, .int .i64 p.n, .int .i64 p.i, .slice pa pl pc]] (w.alloc (boxP p.cl p.n p.i pa pl pc)) (BB true (w.alloc (boxP p.cl p.n p.i pa pl pc)))) := Lib.hid
    (ghas_large (h.below b0).gm p pa pl pc (hps.on b0) hn hc (decide_eq_true hx).symm)
  have HF : Hid (∀ v, Below (w.alloc (boxP p.cl p.n p.i pa pl pc)).heap.size (w.alloc (boxP p.cl p.n p.i pa pl pc)) v → Bp v w.heap.size p.cl p.n p.i pa pl pc ∧ Calls Try.prog 42 #[.pointer (some ⟨y.g, 0, none⟩), .agg #[.int .i64 p.cl, .int .i64 p.n, .int .i64 p.i, .slice pa pl pc]] v fun e w' => e = .returned (.tuple #[]) ∧ GN y x lab Q m (goN r (p.n, p.ps)) w w' ∧ Mt w' m (goN r (p.n, p.ps)).st l) := Lib.hid fun v bv => by
    have h1 := (h.below b0).below bv
    have bT := belowT b0 bv
    refine ⟨(Bp.new w p.cl p.n p.i pa pl pc).on bv, (gdropl_any h1 p.cl p.i hx pa pl pc (hps.on bT) hpa).mono ?_⟩
    rintro e w' ⟨rfl, gn, mt⟩
    exact ⟨rfl, gn.from bT, mt⟩
  obtain ⟨c0, c1, c2, c3⟩ := Bp.new w p.cl p.n p.i pa pl pc
  have d0 : decide (0 ≤ p.cl) = false := decide_eq_false (by omega)
  obtain ⟨cl, n, i, ps⟩ := p
  dsimp only at *
  clear h hn hc b0 hps hx hpa
  go_enter Try.func14, Try.ntmps14
  go_wp2_with fail
  refine HH.out.mono ?_
  rintro e w2 ⟨rfl, b2⟩
  obtain ⟨bp, hd⟩ := HF.out _ b2
  have HD := Lib.hid hd
  have e0 := bp.c0
  have e1 := bp.c1
  have e2 := bp.c2
  have e3 := bp.c3
  clear b2 bp hd
  go_wp2_with fail
  refine HD.out.mono ?_
  rintro e w3 ⟨rfl, gn, mt⟩
  have HE := Lib.hid (And.intro gn mt)
  clear gn mt
  go_wp2
  go_ret
  exact ⟨rfl, HE.out.1, HE.out.2⟩
theorem gdrop_any (h : Gw w y x A lab V Q m l r) (p : Pc) (pa : Option Addr) (pl pc : Nat) (hps : Ints w w.heap.size pa pl p.ps) (hpa : 0 < pl → ∃ b o, pa = some ⟨b, o, none⟩ ∧ ¬ Ftp y lab Q b ∧ b ≠ m) (hn : Pl.Fit p.n) :
    Calls Try.prog 14 #[.pointer (some ⟨y.g, 0, none⟩), .agg #[.int .i64 p.cl, .int .i64 p.n, .int .i64 p.i, .slice pa pl pc]] w (GmEnds (.int .i64 (dropR r p).2) y x lab Q m l (dropR r p).1 w) := by
  unfold dropR
  by_cases h0 : 0 ≤ p.cl
  · rw [if_pos h0]
    exact gdrop_small h p pa pl pc hn h0
  · rw [if_neg h0]
    by_cases h1 : p.cl = -1 ∧ (p.n, p.ps) ∈ r.lg
    · rw [if_pos h1]
      exact gdrop_large h p pa pl pc hps hpa hn h1.1 h1.2
    · rw [if_neg h1]
      exact gdrop_none h p pa pl pc hps hn (by omega) h1
theorem gdrop_nil (p : Pc) (pa : Option Addr) (pl pc : Nat) (w : World) :
    Calls Try.prog 14 #[.pointer none, .agg #[.int .i64 p.cl, .int .i64 p.n, .int .i64 p.i, .slice pa pl pc]] w (IB 1 w) := by
  have b0 := Lib.hid (below1 w (boxP p.cl p.n p.i pa pl pc))
  have HH := Lib.hid (ghas_nil p pa pl pc (w.alloc (boxP p.cl p.n p.i pa pl pc)))
  have HG := Lib.hid (ggive_nil p.cl p.n p.i (w.alloc (boxP p.cl p.n p.i pa pl pc)))
  obtain ⟨c0, c1, c2, c3⟩ := Bp.new w p.cl p.n p.i pa pl pc
  obtain ⟨cl, n, i, ps⟩ := p
  dsimp only at *
  by_cases h0 : 0 ≤ cl
  · have d0 : decide (0 ≤ cl) = true := decide_eq_true h0
    clear h0
    go_enter Try.func14, Try.ntmps14
    go_wp2_with fail
    refine HG.out.mono ?_
    rintro e w2 ⟨rfl, rfl⟩
    go_wp2
    go_ret
    exact ⟨rfl, b0.out⟩
  · have d0 : decide (0 ≤ cl) = false := decide_eq_false h0
    clear h0
    go_enter Try.func14, Try.ntmps14
    go_wp2_with fail
    refine HH.out.mono ?_
    rintro e w2 ⟨rfl, b2⟩
    have B2 := Lib.hid (belowT b0.out b2)
    clear b2
    go_wp2
    go_ret
    exact ⟨rfl, B2.out⟩
end
end Go.Proofs.Ytfkegbipfekbdaa.Room
/-
  A room in memory, and its meter, as one word ('Rh'), with all blocks that are its own (F); each of its functions.
-/
namespace Go.Proofs.Ytfkegbipfekbdaa.Room
open Go.ChangeShapes Go.WideShapes Go.ChangeAt Go.RowKit
open Sh (Shl Ps Sw Uw Sr Sm Fx Adr Lab Nxt Far nums usedS mem_nums planV VB)
set_option maxRecDepth 100000

/-- Steps that are not too many to be counted. -/
def St (r : Rom) : Prop := 0 ≤ r.st ∧ r.st ≤ 1000000000000
def Rh (w : World) (y : Gx) (m : Nat) (r : Rom) (F : Nat → Prop) : Prop :=
  ∃ x A lab V Q, Gm w y x A lab V Q r ∧ y.mv = .pointer (some ⟨m, 0, none⟩) ∧ Mt w m r.st 0 ∧ ¬ Ftp y lab Q m ∧ ∀ i, F i ↔ (Ftp y lab Q i ∨ i = m)
/-- The room is r now: its blocks are those it had, or new ones; nothing else has turned. -/
def RhN (w : World) (y : Gx) (m : Nat) (r : Rom) (F : Nat → Prop) (w' : World) : Prop := ∃ F', Rh w' y m r F' ∧ (∀ i, i < w.heap.size → F' i → F i) ∧ But F w w'
section
variable {w w' : World} {y : Gx} {m : Nat} {r r' : Rom} {F S : Nat → Prop}
theorem Rh.gw (h : Rh w y m r F) (hs : St r) : ∃ x A lab V Q, Gw w y x A lab V Q m 0 r ∧ ∀ i, F i ↔ (Ftp y lab Q i ∨ i = m) := by
  obtain ⟨x, A, lab, V, Q, g, mv, mt, mo, hF⟩ := h
  exact ⟨x, A, lab, V, Q, ⟨g, mv, mt, mo, hs⟩, hF⟩
theorem Rh.wf (h : Rh w y m r F) : RWf y.K y.c.cn (blk y.c) r ∧ MayC y.c ∧ y.c.cn = y.c.xs.length ∧ 1 ≤ y.K ∧ y.K ≤ 1024 := by
  obtain ⟨x, A, lab, V, Q, g, _⟩ := h
  exact ⟨g.wf, g.may, g.cn, g.k1, g.k2⟩
theorem Rh.fin (h : Rh w y m r F) {i : Nat} (hi : F i) : i < w.heap.size := by
  obtain ⟨x, A, lab, V, Q, g, _, mt, _, hF⟩ := h
  rcases (hF i).1 hi with q | q
  · exact g.ftp q
  · rw [q]; exact mt.size
theorem Rh.but (h : Rh w y m r F) (hb : But S w w') (hS : ∀ i, S i → ¬ F i) (hf : Far w S) : Rh w' y m r F := by
  obtain ⟨x, A, lab, V, Q, g, mv, mt, mo, hF⟩ := h
  exact ⟨x, A, lab, V, Q, g.but hb (fun i s q => hS i s ((hF i).2 (Or.inl q))) hf, mv, mt.but hb (fun s => hS m s ((hF m).2 (Or.inr rfl))), mo, hF⟩
theorem Rh.below (h : Rh w y m r F) (hb : Below w.heap.size w w') : Rh w' y m r F := h.but (Below.but hb fun _ => False) (fun _ q => q.elim) (fun _ q => q.elim)
theorem RhN.same (h : Rh w y m r F) (hb : Below w.heap.size w w') : RhN w y m r F w' := ⟨F, h.below hb, fun _ _ q => q, Below.but hb _⟩
theorem RhN.of {x : Nat → Fx} {A : Nat → Adr} {lab : Nat → Lab} {V : Int → Value} {Q : Nat → Prop} (h : Gw w y x A lab V Q m 0 r) (hF : ∀ i, F i ↔ (Ftp y lab Q i ∨ i = m)) (gn : GN y x lab Q m r' w w') (mt : Mt w' m r'.st 0) : RhN w y m r' F w' := by
  obtain ⟨A', lab', V', Q', g, sub, b⟩ := gn
  refine ⟨fun i => Ftp y lab' Q' i ∨ i = m, ⟨x, A', lab', V', Q', g, h.mv, mt, fun q => h.mo (sub m h.ms q), fun _ => Iff.rfl⟩, fun i hi q => ?_, b.mono fun i _ q => ?_⟩
  · rcases q with q | q
    · exact (hF i).2 (Or.inl (sub i hi q))
    · exact (hF i).2 (Or.inr q)
  · rcases q with q | q
    · exact (hF i).2 (Or.inl (Or.inr q))
    · exact (hF i).2 (Or.inr q)
theorem RhN.from {w1 : World} (h : RhN w1 y m r F w') (hb : Below w.heap.size w w1) : RhN w y m r F w' := by
  obtain ⟨F', h1, h2, h3⟩ := h
  exact ⟨F', h1, fun i hi q => h2 i (Nat.lt_of_lt_of_le hi hb.size) q, (Below.but hb _).trans h3⟩
/-- How an act of a room ends that answers v. -/
def RhEnds (v : Value) (y : Gx) (m : Nat) (r : Rom) (F : Nat → Prop) (w : World) (e : Ending) (w' : World) : Prop := e = .returned v ∧ RhN w y m r F w'
theorem Rh.take (h : Rh w y m r F) (hs : St r) (k o : Int) (ho : o ≤ 9223372036854775807) :
    Calls Try.prog 12 #[.pointer (some ⟨y.g, 0, none⟩), .int .i64 k, .int .i64 o] w
      (RhEnds (.tuple #[.int .i64 (takeR (blk y.c) r k o).2.1, .int .i64 (takeR (blk y.c) r k o).2.2.1, .int .i64 (takeR (blk y.c) r k o).2.2.2]) y m (takeR (blk y.c) r k o).1 F w) := by
  obtain ⟨x, A, lab, V, Q, g, hF⟩ := h.gw hs
  refine (gtake_any g k o ho).mono ?_
  rintro e w' ⟨rfl, gn, mt⟩
  exact ⟨rfl, RhN.of g hF gn mt⟩
theorem Rh.give (h : Rh w y m r F) (hs : St r) (k p i : Int) (hp : Pl.Fit p) :
    Calls Try.prog 15 #[.pointer (some ⟨y.g, 0, none⟩), .int .i64 k, .int .i64 p, .int .i64 i] w (RhEnds (.int .i64 (giveR r k p i).2) y m (giveR r k p i).1 F w) := by
  obtain ⟨x, A, lab, V, Q, g, hF⟩ := h.gw hs
  refine (ggive_any g k p i hp).mono ?_
  rintro e w' ⟨rfl, gn, mt⟩
  exact ⟨rfl, RhN.of g hF gn mt⟩
theorem Rh.own (h : Rh w y m r F) (hs : St r) (k p i o : Int) (hp : Pl.Fit p) (ho : o ≤ 9223372036854775807) :
    Calls Try.prog 16 #[.pointer (some ⟨y.g, 0, none⟩), .int .i64 k, .int .i64 p, .int .i64 i, .int .i64 o] w (RhEnds (.int .i64 (ownR r k p i o).2) y m (ownR r k p i o).1 F w) := by
  obtain ⟨x, A, lab, V, Q, g, hF⟩ := h.gw hs
  refine (gown_any g k p i o hp ho).mono ?_
  rintro e w' ⟨rfl, gn, mt⟩
  exact ⟨rfl, RhN.of g hF gn mt⟩
theorem Rh.place (h : Rh w y m r F) (hs : St r) (o size : Int) (ho : o ≤ 9223372036854775807) (hz : size ≤ 9223372036854775807) :
    Calls Try.prog 11 #[.pointer (some ⟨y.g, 0, none⟩), .int .i64 o, .int .i64 size] w fun e w' => ∃ pa pc, e = .returned (.tuple #[.agg #[.int .i64 (placeR (blk y.c) y.c r o size).2.1.cl, .int .i64 (placeR (blk y.c) y.c r o size).2.1.n, .int .i64 (placeR (blk y.c) y.c r o size).2.1.i, .slice pa (placeR (blk y.c) y.c r o size).2.1.ps.length pc], .int .i64 (placeR (blk y.c) y.c r o size).2.2]) ∧
      Ints w' w'.heap.size pa (placeR (blk y.c) y.c r o size).2.1.ps.length (placeR (blk y.c) y.c r o size).2.1.ps ∧ ∃ F', Rh w' y m (placeR (blk y.c) y.c r o size).1 F' ∧ (∀ i, i < w.heap.size → F' i → F i) ∧ But F w w' ∧ (0 < (placeR (blk y.c) y.c r o size).2.1.ps.length → ∃ g o, pa = some ⟨g, o, none⟩ ∧ w.heap.size ≤ g ∧ ¬ F' g) := by
  obtain ⟨x, A, lab, V, Q, g, hF⟩ := h.gw hs
  refine (gplace_any g o size ho hz).mono ?_
  rintro e w' ⟨pa, pc, rfl, hi, gn, mt⟩
  obtain ⟨A', lab', V', Q', g', sub, b, hp⟩ := gn
  have ms := g.ms
  refine ⟨pa, pc, rfl, hi, fun i => Ftp y lab' Q' i ∨ i = m, ⟨x, A', lab', V', Q', g', g.mv, mt, fun q => g.mo (sub m g.ms q), fun _ => Iff.rfl⟩, fun i hi q => ?_, b.mono fun i _ q => ?_, fun z => ?_⟩
  · rcases q with q | q
    · exact (hF i).2 (Or.inl (sub i hi q))
    · exact (hF i).2 (Or.inr q)
  · rcases q with q | q
    · exact (hF i).2 (Or.inl (Or.inr q))
    · exact (hF i).2 (Or.inr q)
  · obtain ⟨g6, o6, e, h1, h2⟩ := hp z
    refine ⟨g6, o6, e, h1, fun q => ?_⟩
    rcases q with q | q
    · exact h2 q
    · omega
theorem Rh.drop (h : Rh w y m r F) (hs : St r) (p : Pc) (pa : Option Addr) (pl pc : Nat) (hps : Ints w w.heap.size pa pl p.ps) (hpa : 0 < pl → ∃ b o, pa = some ⟨b, o, none⟩ ∧ ¬ F b) (hn : Pl.Fit p.n) :
    Calls Try.prog 14 #[.pointer (some ⟨y.g, 0, none⟩), .agg #[.int .i64 p.cl, .int .i64 p.n, .int .i64 p.i, .slice pa pl pc]] w (RhEnds (.int .i64 (dropR r p).2) y m (dropR r p).1 F w) := by
  obtain ⟨x, A, lab, V, Q, g, hF⟩ := h.gw hs
  refine (gdrop_any g p pa pl pc hps (fun z => ?_) hn).mono ?_
  · obtain ⟨b, o, e, hb⟩ := hpa z
    exact ⟨b, o, e, fun q => hb ((hF b).2 (Or.inl q)), fun q => hb ((hF b).2 (Or.inr q))⟩
  · rintro e w' ⟨rfl, gn, mt⟩
    exact ⟨rfl, RhN.of g hF gn mt⟩
theorem Rh.fits (h : Rh w y m r F) (size : Int) (hz : size ≤ 9223372036854775807) : Calls Try.prog 10 #[.pointer (some ⟨y.g, 0, none⟩), .int .i64 size] w (IB (fitsR y.c r size) w) := by
  obtain ⟨x, A, lab, V, Q, g, _⟩ := h
  exact gfits_any g size hz
theorem Rh.held (h : Rh w y m r F) : Calls Try.prog 8 #[.pointer (some ⟨y.g, 0, none⟩)] w (RQ (heldR r) w) := by
  obtain ⟨x, A, lab, V, Q, g, _⟩ := h
  exact gheld_any g
theorem Rh.opens (h : Rh w y m r F) (k : Int) : Calls Try.prog 9 #[.pointer (some ⟨y.g, 0, none⟩), .int .i64 k] w (R1 (openR r k) w) := by
  obtain ⟨x, A, lab, V, Q, g, _⟩ := h
  exact gopen_any g k
theorem Rh.used (h : Rh w y m r F) (k : Int) : Calls Try.prog 18 #[.pointer (some ⟨y.g, 0, none⟩), .int .i64 k] w (R1 (usedR r k) w) := by
  obtain ⟨x, A, lab, V, Q, g, _⟩ := h
  exact gused_any g k
theorem Rh.owner (h : Rh w y m r F) (k : Int) {n i : Int} (hn : Pl.Fit n) (hi : Pl.Fit i) : Calls Try.prog 17 #[.pointer (some ⟨y.g, 0, none⟩), .int .i64 k, .int .i64 n, .int .i64 i] w (R1 (ownerR r k n i) w) := by
  obtain ⟨x, A, lab, V, Q, g, _⟩ := h
  exact gowner_any g k hn hi
theorem Rh.plan (h : Rh w y m r F) (k : Int) : Calls Try.prog 13 #[.pointer (some ⟨y.g, 0, none⟩), .int .i64 k] w (VB (planV (planR r k)) w) := by
  obtain ⟨x, A, lab, V, Q, g, _⟩ := h
  exact gplan_any g k
theorem Rh.total (h : Rh w y m r F) : Calls Try.prog 21 #[.pointer (some ⟨m, 0, none⟩)] w (R1 r.st w) := by
  obtain ⟨x, A, lab, V, Q, g, _, mt, _⟩ := h
  exact total_any m _ _ w mt
end
end Go.Proofs.Ytfkegbipfekbdaa.Room
/-
  A new plain room. No statement about a Go function.
-/
namespace Go.Proofs.Ytfkegbipfekbdaa.Room
open Sh (Sw Uw)

/-- A new room. -/
def newR (K n : Nat) : Rom := ⟨Pl.freed K, Pl.turns K, List.replicate n ([], []), [], 0⟩
theorem new_shelf (K n k : Nat) : shelf (newR K n) k = Sh.newS K := by
  have e : ((List.replicate n (([], []) : Sh.Ps × List Int))[k]?).getD ([], []) = ([], []) := by
    rw [List.getElem?_replicate]
    split <;> rfl
  unfold shelf newR
  simp only [e]
  rfl
theorem RWf.new (K n : Nat) (B : Nat → Nat) (hn : n ≤ 16) : RWf K n B (newR K n) := by
  refine ⟨Pl.Pw.new K, by simp [newR], fun k hk => ?_, fun x hx => by simp [newR, lgAll] at hx, by simp [newR, lgAll], ?_⟩
  · rw [new_shelf]
    exact ⟨Sw.new K _ _ (by omega) (by omega), Uw.new K⟩
  · have e : shSum (List.replicate n (([], []) : Sh.Ps × List Int)) = 0 := by
      unfold shSum
      rw [List.map_replicate]
      simp
    show (Pl.turns K).length + shSum (List.replicate n ([], [])) + (lgAll []).length = K
    rw [e, Pl.turns_len]
    rfl
end Go.Proofs.Ytfkegbipfekbdaa.Room
