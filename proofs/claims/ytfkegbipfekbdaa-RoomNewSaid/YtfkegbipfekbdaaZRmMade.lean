import Derived.Test.YtfkegbipfekbdaaZRmGo
import Derived.Test.YtfkegbipfekbdaaZRoomNew
import Derived.Test.YtfkegbipfekbdaaZShNew
import Derived.OwnWalk
import Derived.Laws.OwnMore
/-
  Package room, its ground: how New makes a room: shelves, one by one, on one pool ('Gnw'); the whole ('Gm.made'). No statement about a Go function.
-/
namespace Go.Proofs.Ytfkegbipfekbdaa.Room
open Go.ChangeShapes Go.WideShapes Go.ChangeAt Go.RowKit
open Sh (Shl Ps Sw Uw Sr Sm Fx Adr Lab Nxt Far nums usedS mem_nums)
set_option maxRecDepth 100000

/-- A block of n pointers that are nil. -/
def noShelves (n : Nat) : Obj := .cells (madeCells #[.pointer none] n) 58
theorem make_shelves (n : Nat) (hn : n ≤ 1024) (v : World) :
    (Instr.makeSlice 57 (.int .i64 (n : Int)) (.int .i64 (n : Int))).run Try.prog v = .ok (.slice (some ⟨v.heap.size, 0, none⟩) n n) (v.alloc (noShelves n)) := by
  obtain ⟨i, hi, hz, hs, hb⟩ : ∃ i, Try.prog.info? 58 = some i ∧ i.zero = some (.pointer none) ∧ i.size = 1 ∧ i.bytes = 8 := ⟨_, rfl, by kernel_rfl, by kernel_rfl, by kernel_rfl⟩
  rw [run_make v 57 58 i _ Try.underlying57 hi hz .i64 .i64 n n (by omega) (by omega) (by rw [hb]; omega) (by omega)]
  simp [hs, noShelves, Value.cells]
theorem noShelves_cell (w : World) (n k : Nat) (hk : k < n) : (w.alloc (noShelves n)).cell? ⟨w.heap.size, k, none⟩ = some (.pointer none) := by
  have hh : (w.alloc (noShelves n)).heap[w.heap.size]? = some (noShelves n) := by simp only [World.alloc, Array.getElem?_push, if_true]
  rw [World.cell?, hh]
  simp [noShelves, madeCells, hk, Nat.mod_one]
theorem noShelves_free (w : World) (n k : Nat) : (w.alloc (noShelves n)).frozen? ⟨w.heap.size, k, none⟩ = false := by
  have hh : (w.alloc (noShelves n)).heap[w.heap.size]? = some (noShelves n) := by simp only [World.alloc, Array.getElem?_push, if_true]
  rw [World.frozen?, hh]
  simp [noShelves]

/-- How far New has come: j shelves are made, on a pool of K pages; block sb is their row, of n. -/
structure Gnw (w wr : World) (pp pa sb K n j : Nat) (B : Nat → Nat) (x : Nat → Fx) (A : Nat → Adr) (lab : Nat → Lab) : Prop where
  pool : Pl.Pm wr pp pa K (Pl.freed K) (Pl.turns K)
  shv : Shv wr j x A lab (newR K n)
  fx : Fxs j pp pa K B x
  lo : ∀ k, k < j → ∀ i, lab k i ≠ none → i = pp ∨ i = pa ∨ sb < i
  row : ∀ k, k < j → wr.cell? ⟨sb, k, none⟩ = some (.pointer (some ⟨(x k).s, 0, none⟩))
  rest : ∀ k, j ≤ k → k < n → wr.cell? ⟨sb, k, none⟩ = some (.pointer none)
  free : ∀ k, wr.frozen? ⟨sb, k, none⟩ = false
  sbl : sb < wr.heap.size
  ne : sb ≠ pp ∧ sb ≠ pa
  bd : Below w.heap.size w wr
  new : w.heap.size ≤ pp ∧ w.heap.size ≤ pa ∧ w.heap.size ≤ sb
section
variable {w wr w5 W : World} {pp pa sb K n j : Nat} {B : Nat → Nat} {x : Nat → Fx} {A : Nat → Adr} {lab : Nat → Lab}
theorem Gnw.start {w1 : World} (hp : Pl.Pm w1 pp pa K (Pl.freed K) (Pl.turns K)) (b1 : Below w.heap.size w w1) (h1 : w.heap.size ≤ pp) (h2 : w.heap.size ≤ pa) (n : Nat) (B : Nat → Nat) (x : Nat → Fx) (A : Nat → Adr) (lab : Nat → Lab) : Gnw w (w1.alloc (noShelves n)) pp pa w1.heap.size K n 0 B x A lab := by
  have b2 := below1 w1 (noShelves n)
  have q1 := hp.psize
  have q2 := hp.asize
  have q3 := b1.size
  exact ⟨hp.below b2, ⟨fun k hk => absurd hk (by omega), fun j k i hj => absurd hj (by omega)⟩, ⟨fun k hk => absurd hk (by omega), fun k hk => absurd hk (by omega), fun k hk => absurd hk (by omega), fun k hk => absurd hk (by omega), fun k hk => absurd hk (by omega)⟩,
    fun k hk => absurd hk (by omega), fun k hk => absurd hk (by omega), fun k _ hk => noShelves_cell w1 n k hk, noShelves_free w1 n, by simp, ⟨by omega, by omega⟩, b1.trans (b2.mono q3), ⟨h1, h2, q3⟩⟩
/-- One shelf more. -/
theorem Gnw.next (h : Gnw w wr pp pa sb K n j B x A lab) (hj : j < n) {w4 : World} (b4 : Below wr.heap.size wr w4) {xj : Fx} {Aj : Adr} {lj : Lab} (sm : Sm w5 xj Aj lj ⟨Pl.freed K, Pl.turns K, [], []⟩) (hx : xj.pp = pp ∧ xj.pa = pa ∧ xj.K = K ∧ xj.B = B j ∧ xj.c = (j : Int)) (b5 : Below w4.heap.size w4 w5) (hl : ∀ i, lj i ≠ none → i = pp ∨ i = pa ∨ w4.heap.size ≤ i) :
    w5.frozen? ⟨sb, j, none⟩ = false ∧ w5.cell? ⟨sb, j, none⟩ = some (.pointer none) ∧
      Gnw w (w5.setCell ⟨sb, j, none⟩ (.pointer (some ⟨xj.s, 0, none⟩))) pp pa sb K n (j + 1) B (fun k => if k = j then xj else x k) (fun k => if k = j then Aj else A k) (fun k => if k = j then lj else lab k) := by
  have b : Below wr.heap.size wr w5 := belowT b4 b5
  have s4 := b4.size
  have cb : ∀ k, w5.cell? ⟨sb, k, none⟩ = wr.cell? ⟨sb, k, none⟩ := fun k => b.cell (p := ⟨sb, k, none⟩) h.sbl
  have fb : ∀ k, w5.frozen? ⟨sb, k, none⟩ = wr.frozen? ⟨sb, k, none⟩ := fun k => World.frozen?_of_block (w := wr) (a := ⟨sb, k, none⟩) (b.block sb h.sbl)
  have c5 : w5.cell? ⟨sb, j, none⟩ = some (.pointer none) := (cb j).trans (h.rest j (Nat.le_refl _) hj)
  have b6 : But (· = sb) w5 (w5.setCell ⟨sb, j, none⟩ (.pointer (some ⟨xj.s, 0, none⟩))) := (But.refl (· = sb) w5).setCell (p := ⟨sb, j, none⟩) (fun _ => rfl) _
  have hsb := h.sbl
  have far : Far w5 (· = sb) := fun i e _ v hv => by
    rw [e, cb 0] at hv
    by_cases z : 0 < j
    · rw [h.row 0 z] at hv
      cases hv
    · rw [h.rest 0 (by omega) (by omega)] at hv
      cases hv
  have out : ∀ k, k < j → lab k sb = none := fun k hk => by
    cases e : lab k sb with
    | none => rfl
    | some t =>
      have := h.lo k hk sb (by rw [e]; simp)
      have := h.ne
      omega
  have outj : lj sb = none := by
    cases e : lj sb with
    | none => rfl
    | some t =>
      have := hl sb (by rw [e]; simp)
      have := h.ne
      omega
  have pl5 := h.pool.below b
  have esh : ∀ k, shelf (newR K n) k = Sh.newS K := fun k => new_shelf K n k
  refine ⟨(fb j).trans (h.free j), c5, ⟨?_, ⟨fun k hk => ?_, fun a k i ha hk hne q1 q2 => ?_⟩, ⟨fun k hk => ?_, fun k hk => ?_, fun k hk => ?_, fun k hk => ?_, fun k hk => ?_⟩, fun k hk i hi => ?_, fun k hk => ?_, fun k hk hn => ?_, fun k => ?_, by have := b.size; have := b6.size; omega, h.ne, (h.bd.trans (b.mono h.bd.size)).trans (b6.one (Nat.le_trans h.bd.size b.size) h.new.2.2), h.new⟩⟩
  · exact pl5.but b6 (fun e => h.ne.1 e.symm) (fun e => h.ne.2 e.symm) far
  · by_cases e : k = j
    · subst e
      simp only [if_pos]
      rw [esh k]
      exact sm.sr.but b6 (fun i e => by rw [e]; exact outj) far
    · simp only [if_neg e]
      exact ((h.shv.each k (by omega)).below b).but b6 (fun i e => by rw [e]; exact out k (by omega)) far
  · by_cases ea : a = j
    · have ek : ¬ k = j := fun z => hne (by rw [ea, z])
      simp only [if_pos ea, if_neg ek] at q1 q2 ⊢
      have kj : k < j := by omega
      have f1 := (h.shv.each k kj).fin i q2
      have l2 := h.lo k kj i q2
      have ly := sm.sr.lay
      have lk := (h.shv.each k kj).lay
      have p1 := ly.pp
      have p2 := ly.pa
      have p3 := lk.pp
      have p4 := lk.pa
      rw [hx.1] at p1
      rw [hx.2.1] at p2
      rw [h.fx.pp k kj] at p3
      rw [h.fx.pa k kj] at p4
      rcases hl i q1 with e | e | e
      · rw [e]; exact ⟨p1, p3⟩
      · rw [e]; exact ⟨p2, p4⟩
      · omega
    · by_cases ek : k = j
      · simp only [if_neg ea, if_pos ek] at q1 q2 ⊢
        have aj : a < j := by omega
        have f1 := (h.shv.each a aj).fin i q1
        have ly := sm.sr.lay
        have lk := (h.shv.each a aj).lay
        have p1 := ly.pp
        have p2 := ly.pa
        have p3 := lk.pp
        have p4 := lk.pa
        rw [hx.1] at p1
        rw [hx.2.1] at p2
        rw [h.fx.pp a aj] at p3
        rw [h.fx.pa a aj] at p4
        rcases hl i q2 with e | e | e
        · rw [e]; exact ⟨p3, p1⟩
        · rw [e]; exact ⟨p4, p2⟩
        · omega
      · simp only [if_neg ea, if_neg ek] at q1 q2 ⊢
        exact h.shv.apart a k i (by omega) (by omega) hne q1 q2
  · by_cases e : k = j
    · simp only [if_pos e]; exact hx.1
    · simp only [if_neg e]; exact h.fx.pp k (by omega)
  · by_cases e : k = j
    · simp only [if_pos e]; exact hx.2.1
    · simp only [if_neg e]; exact h.fx.pa k (by omega)
  · by_cases e : k = j
    · simp only [if_pos e]; exact hx.2.2.1
    · simp only [if_neg e]; exact h.fx.K k (by omega)
  · by_cases e : k = j
    · simp only [if_pos e]; rw [e]; exact hx.2.2.2.1
    · simp only [if_neg e]; exact h.fx.B k (by omega)
  · by_cases e : k = j
    · simp only [if_pos e]; rw [e]; exact hx.2.2.2.2
    · simp only [if_neg e]; exact h.fx.c k (by omega)
  · by_cases e : k = j
    · simp only [if_pos e] at hi
      rcases hl i hi with z | z | z
      · exact Or.inl z
      · exact Or.inr (Or.inl z)
      · exact Or.inr (Or.inr (by omega))
    · simp only [if_neg e] at hi
      exact h.lo k (by omega) i hi
  · by_cases e : k = j
    · subst e
      simp only [if_pos]
      exact World.cell?_setCell_same w5 _ _ c5
    · simp only [if_neg e]
      rw [World.cell?_setCell_other _ _ _ _ (by simp <;> omega), cb k]
      exact h.row k (by omega)
  · rw [World.cell?_setCell_other _ _ _ _ (by simp <;> omega), cb k]
    exact h.rest k (by omega) hn
  · have := (fb k).trans (h.free k)
    simpa using this
/-- The whole: the room's block. -/
theorem Gnw.made {c : Cf} (h : Gnw w wr pp pa sb K c.cn c.cn (blk c) x A lab) (may : MayC c) (hcn : c.cn = c.xs.length) (k1 : 1 ≤ K) (k2 : K ≤ 1024) (bW : Below wr.heap.size wr W) {gz go zc mm : Nat} (hz : Ints W W.heap.size (some ⟨gz, go, none⟩) c.cn c.xs) (hzc : c.cn ≤ zc) (hg : wr.heap.size ≤ gz ∧ gz < W.heap.size ∧ gz ≠ mm) {V : Int → Value} (hm : Lm W mm [] V) (hmm : wr.heap.size ≤ mm) (mv : Value) :
    Gm (W.alloc (.cells #[mv, .pointer (some ⟨pp, 0, none⟩), .slice (some ⟨sb, 0, none⟩) c.cn c.cn, .slice (some ⟨gz, go, none⟩) c.cn zc, .int .i64 c.size, .int .i64 c.most, .map (some mm)] 65)) ⟨W.heap.size, mv, pp, pa, K, sb, some ⟨gz, go, none⟩, zc, mm, c⟩ x A lab V (fun i => i = W.heap.size ∨ i = sb ∨ i = gz) (newR K c.cn) ∧
      ∀ i, Ftp ⟨W.heap.size, mv, pp, pa, K, sb, some ⟨gz, go, none⟩, zc, mm, c⟩ lab (fun i => i = W.heap.size ∨ i = sb ∨ i = gz) i → w.heap.size ≤ i := by
  obtain ⟨o, ho⟩ : ∃ o : Obj, o = .cells #[mv, .pointer (some ⟨pp, 0, none⟩), .slice (some ⟨sb, 0, none⟩) c.cn c.cn, .slice (some ⟨gz, go, none⟩) c.cn zc, .int .i64 c.size, .int .i64 c.most, .map (some mm)] 65 := ⟨_, rfl⟩
  rw [← ho]
  have bo := below1 W o
  have bb : Below wr.heap.size wr (W.alloc o) := belowT bW bo
  have q1 := h.pool.psize
  have q2 := h.pool.asize
  have q3 := h.sbl
  have q4 := bW.size
  have q5 := hm.lt
  have q6 := h.bd.size
  have hn := h.new
  have hne := h.ne
  have anyW : ∀ i, Any c.cn lab i → i < wr.heap.size := fun i z => h.shv.fin z
  have anyL : ∀ i, Any c.cn lab i → i = pp ∨ i = pa ∨ sb < i := fun i z => by
    obtain ⟨k, hk, e⟩ := z
    exact h.lo k hk i e
  have sz : (W.alloc o).heap.size = W.heap.size + 1 := by simp
  have bf := Below.but bo (fun _ => False)
  refine ⟨⟨⟨?_, ?_, ?_, ?_, ?_, ?_, ?_, fun k hk => ?_⟩, h.fx, h.shv.below bb, h.pool.below bb, ⟨hz.on bo, hzc, fun _ => ⟨gz, go, rfl, Or.inr (Or.inr rfl)⟩⟩, hm.but bf id, fun p hp => by simp [newR] at hp, ⟨Or.inl rfl, Or.inr (Or.inl rfl), fun i z => ?_, ⟨fun z => ?_, ?_, ?_⟩, fun k hk => ?_⟩, fun i z => ?_, RWf.new K c.cn (blk c) (by have := may.few; omega), may, hcn, k1, k2⟩, fun i z => ?_⟩
  · rw [ho]; go_simp
  · rw [ho]; go_simp
  · rw [ho]; go_simp
  · rw [ho]; go_simp
  · rw [ho]; go_simp
  · rw [ho]; go_simp
  · rw [ho]; go_simp
  · exact (bb.cell (p := ⟨sb, k, none⟩) h.sbl).trans (h.row k hk)
  · refine ⟨fun a => ?_, ?_, ?_, ?_⟩
    · have a1 := anyW i a
      have a2 := anyL i a
      rcases z with z | z | z <;> omega
    · show i ≠ mm
      rcases z with z | z | z <;> omega
    · show i ≠ pp
      rcases z with z | z | z <;> omega
    · show i ≠ pa
      rcases z with z | z | z <;> omega
  · have : mm < wr.heap.size := anyW _ z
    omega
  · show mm ≠ pp
    omega
  · show mm ≠ pa
    omega
  · have ly := (h.shv.each k hk).lay
    have p1 := ly.pp
    have p2 := ly.pa
    rw [h.fx.pp k hk] at p1
    rw [h.fx.pa k hk] at p2
    exact ⟨p1, p2⟩
  · rw [sz]
    rcases z with z | z | z <;> omega
  · rcases z with z | z | z | z | z
    · rcases z with z | z | z <;> omega
    · have := anyL i z
      omega
    · have : i = mm := z
      omega
    · have : i = pp := z
      omega
    · have : i = pa := z
      omega
end
end Go.Proofs.Ytfkegbipfekbdaa.Room
