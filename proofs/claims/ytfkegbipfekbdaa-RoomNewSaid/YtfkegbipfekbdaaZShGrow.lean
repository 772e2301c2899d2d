import Derived.Test.YtfkegbipfekbdaaZSh
import Derived.Test.YtfkegbipfekbdaaZRoomNum
import Derived.Test.YtfkegbipfekbdaaZPgBits
/-
  Shelves beside one another on one pool, in memory ('Shv'): each as it stands, apart but for the pool's blocks; one turns, and the others are as they were; the pool alone turns. No statement about a Go function.
-/
namespace Go.Proofs.Ytfkegbipfekbdaa.Room
open Go.ChangeShapes Go.WideShapes Go.ChangeAt Go.RowKit
open Sh (Shl Ps Sw Uw Sr Sm Fx Adr Lab Nxt Far nums usedS mem_nums)
set_option maxRecDepth 100000

/-- A shelf whose pool has turned, and nothing else of it. -/
theorem Sr.other {w w' : World} {x : Fx} {A : Adr} {lab : Lab} {O fl op O' fl' : List Int} {ps : Ps} {u : Int} {S : Nat → Prop} (h : Sr w x A lab O fl ps op u) (hp : Pl.Pm w' x.pp x.pa x.K O' fl') (hb : But S w w') (hS : ∀ i, i < w.heap.size → S i → lab i = none ∨ lab i = some (-2)) : Sr w' x A lab O' fl' ps op u := by
  have hb2 : But (fun i => S i ∧ i < w.heap.size) w w' := hb.mono fun i hi s => ⟨s, hi⟩
  have no : ∀ i t, lab i = some t → t ≠ -2 → ¬ (S i ∧ i < w.heap.size) := fun i t hi ht q => by
    rcases hS i q.2 q.1 with z | z
    · rw [hi] at z; cases z
    · rw [hi] at z; exact ht (Option.some.inj z)
  have l := h.lay
  refine ⟨h.cl.but hb2 (no _ _ l.s (by omega)), hp, Rn.Rg.but h.ring hb2 (no _ _ l.rp (by omega)) (no _ _ l.ra (by omega)) (no _ _ l.rb (by omega)), h.map.but hb2 (no _ _ l.mm (by omega)), fun n X hX => ?_, h.lay, h.kF hb2, h.b1, h.b2⟩
  obtain ⟨n0, l1, l2, l3⟩ := l.pg n (mem_nums hX)
  exact (h.pgs n X hX).but hb2 (no _ _ l1 (by omega)) (no _ _ l2 (by omega)) (no _ _ l3 (by omega))

/-- Shelves on one pool: class k's of K pages, of B k blocks. -/
structure Fxs (n pp pa K : Nat) (B : Nat → Nat) (x : Nat → Fx) : Prop where
  pp : ∀ k, k < n → (x k).pp = pp
  pa : ∀ k, k < n → (x k).pa = pa
  K : ∀ k, k < n → (x k).K = K
  B : ∀ k, k < n → (x k).B = B k
  c : ∀ k, k < n → (x k).c = (k : Int)
structure Shv (w : World) (n : Nat) (x : Nat → Fx) (A : Nat → Adr) (lab : Nat → Lab) (r : Rom) : Prop where
  each : ∀ k, k < n → Sr w (x k) (A k) (lab k) r.O r.fl (shelf r k).ps (shelf r k).op (usedS (shelf r k).ps : Int)
  apart : ∀ j k i, j < n → k < n → j ≠ k → lab j i ≠ none → lab k i ≠ none → lab j i = some (-2) ∧ lab k i = some (-2)
/-- A block of one of them, or of the pool. -/
def Any (n : Nat) (lab : Nat → Lab) (i : Nat) : Prop := ∃ k, k < n ∧ lab k i ≠ none
section
variable {w w' : World} {n pp pa K k : Nat} {B : Nat → Nat} {x : Nat → Fx} {A : Nat → Adr} {lab : Nat → Lab} {r : Rom} {s : Shl} {S : Nat → Prop}
theorem Shv.sm (h : Shv w n x A lab r) (hx : Fxs n pp pa K B x) (hr : RWf K n B r) (hk : k < n) : Sm w (x k) (A k) (lab k) (shelf r k) := by
  obtain ⟨q1, q2⟩ := hr.each k hk
  refine ⟨h.each k hk, ?_, q2⟩
  rw [hx.K k hk, hx.c k hk, hx.B k hk]
  exact q1
theorem Shv.fin (h : Shv w n x A lab r) {i : Nat} (hi : Any n lab i) : i < w.heap.size := by
  obtain ⟨k, hk, q⟩ := hi
  exact (h.each k hk).fin i q
theorem Shv.but (h : Shv w n x A lab r) (hb : But S w w') (hS : ∀ i, S i → ¬ Any n lab i) (hF : Far w S) : Shv w' n x A lab r :=
  ⟨fun k hk => (h.each k hk).but hb (fun i hi => by
    cases e : lab k i with
    | none => rfl
    | some t => exact absurd ⟨k, hk, by rw [e]; simp⟩ (hS i hi)) hF, h.apart⟩
theorem Shv.below (h : Shv w n x A lab r) (hb : Below w.heap.size w w') : Shv w' n x A lab r := ⟨fun k hk => (h.each k hk).below hb, h.apart⟩
/-- One class's shelf turns: the others are as they were, the pool is its. -/
theorem Shv.turn (h : Shv w n x A lab r) (hx : Fxs n pp pa K B x) (hlen : r.sh.length = n) (hk : k < n) (hn : Nxt (x k) (lab k) s w w') :
    ∃ A' lab', Shv w' n x A' lab' (putS r k s) ∧ (∀ i j, i < w.heap.size → j < n → lab' j i = lab j i) ∧ But (Any n lab) w w' ∧ Sw K (k : Int) (B k) s ∧ Uw s := by
  obtain ⟨Ak, labk, sm, ag, hb⟩ := hn
  have hkl : k < r.sh.length := by rw [hlen]; exact hk
  have sw := sm.sw
  rw [hx.K k hk, hx.c k hk, hx.B k hk] at sw
  refine ⟨fun j => if j = k then Ak else A j, fun j => if j = k then labk else lab j, ⟨fun j hj => ?_, fun j l i hj hl hjl q1 q2 => ?_⟩, fun i j hi hj => ?_, hb.mono fun i _ q => ⟨k, hk, q⟩, sw, sm.uw⟩
  · by_cases e : j = k
    · subst e
      simp only [if_pos]
      rw [shelf_put hkl]
      exact sm.sr
    · simp only [if_neg e]
      rw [shelf_put_other e]
      refine Sr.other (h.each j hj) ?_ hb (fun i hi q => ?_)
      · have hp := sm.sr.pool
        rw [hx.pp k hk, hx.pa k hk, hx.K k hk] at hp
        rw [hx.pp j hj, hx.pa j hj, hx.K j hj]
        exact hp
      · cases e2 : lab j i with
        | none => exact Or.inl rfl
        | some t => exact Or.inr (by rw [← e2]; exact (h.apart j k i hj hk e (by rw [e2]; simp) q).1)
  · by_cases e : j = k
    · subst e
      have e2 : ¬ l = j := Ne.symm hjl
      simp only [if_pos, if_neg e2] at q1 q2 ⊢
      have hi := (h.each l hl).fin i q2
      rw [ag i hi] at q1 ⊢
      exact h.apart j l i hj hl hjl q1 q2
    · simp only [if_neg e] at q1 ⊢
      by_cases e2 : l = k
      · subst e2
        simp only [if_pos] at q2 ⊢
        have hi := (h.each j hj).fin i q1
        rw [ag i hi] at q2 ⊢
        exact h.apart j l i hj hl hjl q1 q2
      · simp only [if_neg e2] at q2 ⊢
        exact h.apart j l i hj hl hjl q1 q2
  · by_cases e : j = k
    · subst e
      simp only [if_pos]
      exact ag i hi
    · simp only [if_neg e]
/-- The pool alone turns. -/
theorem Shv.swim (h : Shv w n x A lab r) (hx : Fxs n pp pa K B x) {O' fl' : List Int} (hp : Pl.Pm w' pp pa K O' fl') (hb : But S w w') (hS : ∀ i, i < w.heap.size → S i → ∀ k, k < n → lab k i = none ∨ lab k i = some (-2)) : Shv w' n x A lab ⟨O', fl', r.sh, r.lg, r.st⟩ := by
  refine ⟨fun k hk => ?_, h.apart⟩
  refine Sr.other (h.each k hk) ?_ hb fun i hi q => hS i hi q k hk
  rw [hx.pp k hk, hx.pa k hk, hx.K k hk]
  exact hp
end
end Go.Proofs.Ytfkegbipfekbdaa.Room
/-
  Package shelf: Open, Used, Pages, find, Owner, Own; and of a shelf that is nil.
-/
namespace Go.Proofs.Ytfkegbipfekbdaa.Sh
open Go.ChangeShapes Go.WideShapes Go.ChangeAt Go.RowKit
set_option maxRecDepth 100000

section
variable {w : World} {x : Fx} {A : Adr} {lab : Lab} {O fl op : List Int} {ps : Ps} {u : Int}
theorem open_any (h : Sr w x A lab O fl ps op u) : Calls Try.prog 31 #[.pointer (some ⟨x.s, 0, none⟩)] w (R1 (op.length : Int) w) := by
  have k4 := h.cl.k4
  have H := Lib.hid (Rn.rgLen h.ring 0)
  rw [Rop.lens] at H
  generalize (op.length : Int) = z at H ⊢
  clear h
  go_enter Try.func31, Try.ntmps31
  go_wp2_with fail
  refine H.out.mono ?_
  rintro e w' ⟨rfl, rfl⟩
  go_wp2
  go_ret
  exact ⟨rfl, rfl⟩
theorem used_any (h : Sr w x A lab O fl ps op u) : Calls Try.prog 46 #[.pointer (some ⟨x.s, 0, none⟩)] w (R1 u w) := by
  have k5 := h.cl.k5
  clear h
  go_enter Try.func46, Try.ntmps46
  go_wp2
  go_ret
  exact ⟨rfl, rfl⟩
theorem find_any (h : Sr w x A lab O fl ps op u) {n : Int} (hn : Pl.Fit n) : Calls Try.prog 72 #[.pointer (some ⟨x.s, 0, none⟩), .int .i64 n] w fun e w' => e = .returned (.pointer (ptr ps A n)) ∧ w = w' := by
  have k3 := h.cl.k3
  have hl := h.map.look hn
  generalize ptr ps A n = z at hl ⊢
  clear h hn
  go_enter Try.func72, Try.ntmps72
  go_wp2
  go_ret
  exact ⟨rfl, rfl⟩
theorem ptr_none {n : Int} (h : getP ps n = none) : ptr ps A n = none := if_neg (get_none.1 h)
theorem ptr_at {n : Int} {X : List Int} (h : (n, X) ∈ ps) : ptr ps A n = some ⟨(A n).1, 0, none⟩ := if_pos (mem_nums h)
theorem owner_any (h : Sr w x A lab O fl ps op u) {n : Int} (hn : Pl.Fit n) {k : Int} (hk : Pl.Fit k) : Calls Try.prog 45 #[.pointer (some ⟨x.s, 0, none⟩), .int .i64 n, .int .i64 k] w (R1 (ownerS ⟨O, fl, ps, op⟩ n k) w) := by
  have H := Lib.hid (find_any h hn)
  unfold ownerS
  cases hg : getP ps n with
  | none =>
    rw [ptr_none hg] at H
    have H2 := Lib.hid (Pg.owner_nil k w)
    clear h hn hk hg
    go_enter Try.func45, Try.ntmps45
    go_wp2_with fail
    refine H.out.mono ?_
    rintro e w' ⟨rfl, rfl⟩
    go_wp2_with fail
    refine H2.out.mono ?_
    rintro e w' ⟨rfl, rfl⟩
    go_wp2
    go_ret
    exact ⟨rfl, rfl⟩
  | some X =>
    rw [ptr_at (get_mem hg)] at H
    have H2 := Lib.hid (Pg.owner_any (h.pgs n X (get_mem hg)) k hk)
    show Calls _ _ _ _ (R1 (Pg.ownerOf X k) w)
    generalize Pg.ownerOf X k = z at H2 ⊢
    generalize (A n).1 = a at H H2
    clear h hn hk hg
    go_enter Try.func45, Try.ntmps45
    go_wp2_with fail
    refine H.out.mono ?_
    rintro e w' ⟨rfl, rfl⟩
    go_wp2_with fail
    refine H2.out.mono ?_
    rintro e w' ⟨rfl, rfl⟩
    go_wp2
    go_ret
    exact ⟨rfl, rfl⟩
end
/-- How a call ends that answers v and leaves the shelf s. -/
def ShEnds (v : Value) (x : Fx) (lab : Lab) (s : Shl) (w : World) (e : Ending) (w' : World) : Prop := e = .returned v ∧ Nxt x lab s w w'
section
variable {w : World} {x : Fx} {A : Adr} {lab : Lab} {s : Shl}
theorem own_any (h : Sm w x A lab s) {n : Int} (hn : Pl.Fit n) (k o : Int) (ho : o ≤ 9223372036854775807) :
    Calls Try.prog 44 #[.pointer (some ⟨x.s, 0, none⟩), .int .i64 n, .int .i64 k, .int .i64 o] w (ShEnds (.int .i64 (ownOut s n k o).2) x lab (ownOut s n k o).1 w) := by
  have H := Lib.hid (find_any h.sr hn)
  unfold ownOut
  cases hg : getP s.ps n with
  | none =>
    rw [ptr_none hg] at H
    have H2 := Lib.hid (Pg.pageOwn_nil k o w)
    have HS := Lib.hid (h.same (Below.refl _ _))
    clear h hn hg
    go_enter Try.func44, Try.ntmps44
    go_wp2_with fail
    refine H.out.mono ?_
    rintro e w' ⟨rfl, rfl⟩
    go_wp2_with fail
    refine H2.out.mono ?_
    rintro e w' ⟨rfl, rfl⟩
    go_wp2
    go_ret
    exact ⟨rfl, HS.out⟩
  | some X =>
    have hX := get_mem hg
    rw [ptr_at hX] at H
    have hg' := h.sr.pgs n X hX
    have H2 := Lib.hid (Pg.pageOwn_any hg' k o ho)
    have HS : Hid (∀ w', Pg.Pm w' (A n).1 (A n).2.1 (A n).2.2 (Pg.ownX X k o) → But (fun i => i = (A n).2.1 ∨ i = (A n).2.2) w w' → Nxt x lab ⟨s.O, s.fl, setP s.ps n (Pg.ownX X k o), s.op⟩ w w') := Lib.hid fun w' hp hb => by
      obtain ⟨r1, r2⟩ := h.sr.page hX hp hb
      have hu : Pg.usedN (Pg.ownX X k o) = Pg.usedN X ∧ (Pg.holeOf (Pg.ownX X k o) = -1 ↔ Pg.holeOf X = -1) := own_keeps X k o
      have hs := used_set (Y := Pg.ownX X k o) h.sw.nod hX
      have hw : Sw x.K x.c x.B ⟨s.O, s.fl, setP s.ps n (Pg.ownX X k o), s.op⟩ := h.sw.turn hX (by rw [Pg.own_len]; exact h.sw.len _ _ hX) ((h.sw.pn _ _ hX).own k ho) h.sw.opn fun m => by
        by_cases e : m = n
        · subst e
          have : m ∈ s.op ↔ Pg.holeOf X ≠ -1 := by
            rw [h.sw.opm m]
            constructor
            · rintro ⟨Z, hZ, hh⟩
              rw [same_page h.sw.nod hX hZ]; exact hh
            · intro hh
              exact ⟨X, hX, hh⟩
          rw [this]
          have h2 := hu.2
          constructor
          · intro q; exact Or.inl ⟨rfl, fun z => q (h2.1 z)⟩
          · rintro (⟨_, q⟩ | ⟨q, _⟩)
            · exact fun z => q (h2.2 z)
            · exact absurd rfl q
        · constructor
          · intro q; exact Or.inr ⟨e, q⟩
          · rintro (⟨q, _⟩ | ⟨_, q⟩)
            · exact absurd q e
            · exact q
      refine ⟨A, lab, ⟨?_, hw, fun m Z hm => ?_⟩, fun _ _ => rfl, r2⟩
      · have e : usedS (setP s.ps n (Pg.ownX X k o)) = usedS s.ps := by omega
        show Sr w' x A lab s.O s.fl (setP s.ps n (Pg.ownX X k o)) s.op (usedS (setP s.ps n (Pg.ownX X k o)) : Int)
        rw [e]
        exact r1
      · rcases mem_set.1 hm with ⟨_, rfl, _⟩ | ⟨_, q⟩
        · rw [hu.1]; exact h.uw n X hX
        · exact h.uw _ _ q
    show Calls _ _ _ _ (ShEnds (.int .i64 (Pg.ownE X k o)) x lab ⟨s.O, s.fl, setP s.ps n (Pg.ownX X k o), s.op⟩ w)
    generalize Pg.ownE X k o = z at H2 ⊢
    generalize A n = a at *
    clear h hn hg hg' hX ho
    go_enter Try.func44, Try.ntmps44
    go_wp2_with fail
    refine H.out.mono ?_
    rintro e w' ⟨rfl, rfl⟩
    go_wp2_with fail
    refine H2.out.mono ?_
    rintro e w' ⟨rfl, hp, hb⟩
    have HN := Lib.hid (HS.out w' hp hb)
    clear hp hb
    go_wp2
    go_ret
    exact ⟨rfl, HN.out⟩
end

/-! ### Of a shelf that is nil -/
theorem open_nil (w : World) : Calls Try.prog 31 #[.pointer none] w (R1 0 w) := by
  go_enter Try.func31, Try.ntmps31
  go_wp2
  go_ret
  exact ⟨rfl, rfl⟩
theorem used_nil (w : World) : Calls Try.prog 46 #[.pointer none] w (R1 0 w) := by
  go_enter Try.func46, Try.ntmps46
  go_wp2
  go_ret
  exact ⟨rfl, rfl⟩
theorem find_nil (n : Int) (w : World) : Calls Try.prog 72 #[.pointer none, .int .i64 n] w fun e w' => e = .returned (.pointer none) ∧ w = w' := by
  go_enter Try.func72, Try.ntmps72
  go_wp2
  go_ret
  exact ⟨rfl, rfl⟩
theorem owner_nil (n k : Int) (w : World) : Calls Try.prog 45 #[.pointer none, .int .i64 n, .int .i64 k] w (R1 (-1) w) := by
  have H := Lib.hid (find_nil n w)
  have H2 := Lib.hid (Pg.owner_nil k w)
  go_enter Try.func45, Try.ntmps45
  go_wp2_with fail
  refine H.out.mono ?_
  rintro e w' ⟨rfl, rfl⟩
  go_wp2_with fail
  refine H2.out.mono ?_
  rintro e w' ⟨rfl, rfl⟩
  go_wp2
  go_ret
  exact ⟨rfl, rfl⟩
theorem own_nil (n k o : Int) (w : World) : Calls Try.prog 44 #[.pointer none, .int .i64 n, .int .i64 k, .int .i64 o] w (R1 1 w) := by
  have H := Lib.hid (find_nil n w)
  have H2 := Lib.hid (Pg.pageOwn_nil k o w)
  go_enter Try.func44, Try.ntmps44
  go_wp2_with fail
  refine H.out.mono ?_
  rintro e w' ⟨rfl, rfl⟩
  go_wp2_with fail
  refine H2.out.mono ?_
  rintro e w' ⟨rfl, rfl⟩
  go_wp2
  go_ret
  exact ⟨rfl, rfl⟩
theorem take_nil (o : Int) (w : World) : Calls Try.prog 38 #[.pointer none, .int .i64 o] w fun e w' => e = .returned (.tuple #[.int .i64 0, .int .i64 0, .int .i64 1]) ∧ w = w' := by
  go_enter Try.func38, Try.ntmps38
  go_wp2
  go_ret3
  exact ⟨rfl, rfl⟩
end Go.Proofs.Ytfkegbipfekbdaa.Sh
/-
  Package shelf: grow (a page more), met by a contract.
-/
namespace Go.Proofs.Ytfkegbipfekbdaa.Sh
open Go.ChangeShapes Go.WideShapes Go.ChangeAt Go.RowKit
set_option maxRecDepth 100000

section
variable {w : World} {x : Fx} {A : Adr} {lab : Lab} {O fl op r : List Int} {ps : Ps} {u : Int}
theorem Cl.two (h : Cl w x u) : w.cell? ⟨x.s, 0, none⟩ = some (.pointer (some ⟨x.pp, 0, none⟩)) ∧ w.cell? ⟨x.s, 1, none⟩ = some (.int .i64 x.c) := ⟨h.k0, h.k1⟩
theorem grow_none (h : Sr w x A lab O [] ps op u) (c0 : 0 ≤ x.c) (c1 : x.c ≤ 9223372036854775807) : Calls Try.prog 60 #[.pointer (some ⟨x.s, 0, none⟩)] w fun e w' => e = .returned (.int .i64 5) ∧ Sr w' x A lab O [] ps op u ∧ But (fun i => lab i ≠ none) w w' := by
  have HC : Hid (∀ v, Below w.heap.size w v → Calls Try.prog 85 #[.pointer (some ⟨x.pp, 0, none⟩), .int .i64 x.c] v (Pl.TakeEnds x.pp x.pa x.K (O, [], 0, 5) v)) := Lib.hid fun v hv => by
    have := Pl.take_any (h.below hv).pool x.c ⟨by omega, c1⟩
    rw [show Pl.takeOut O [] x.c = (O, [], 0, 5) by unfold Pl.takeOut; rw [if_neg (by omega)]] at this
    exact this
  have HN : Hid (∀ v w', Below w.heap.size w v → Pl.Pm w' x.pp x.pa x.K O [] → But (Pl.Own x.pp x.pa) v w' → Cl w' x u ∧ Sr w' x A lab O [] ps op u ∧ But (fun i => lab i ≠ none) w w') := Lib.hid fun v w' hv hp hb => by
    obtain ⟨r1, r2⟩ := (h.below hv).swim hp hb
    exact ⟨r1.cl, r1, (Below.but hv _).trans r2⟩
  have kW := h.cl.two
  have kD := (h.below (belowD (Below.refl w.heap.size w))).cl.two
  have BD := belowD (Below.refl w.heap.size w)
  clear h c0 c1
  go_enter Try.func60, Try.ntmps60
  go_wp2_with fail
  go_region_held3 (fun w' => w'.cell? ⟨x.s, 0, none⟩ = some (.pointer (some ⟨x.pp, 0, none⟩)) ∧ w'.cell? ⟨x.s, 1, none⟩ = some (.int .i64 x.c))
    (first | with_reducible exact kD | with_reducible exact k4 | with_reducible exact kW | go_keep)
    ((go_at_call 85; refine (HC.out _ ?_).mono ?_; exact BD; rintro e w4 ⟨rfl, r4, b4⟩; have k4 := (HN.out _ _ BD r4 b4).1.two))
  have HZ := Lib.hid (HN.out _ _ BD r4 b4).2
  clear r4 b4 k4 kW kD BD
  go_wp2
  go_ret
  exact ⟨rfl, HZ.out⟩
set_option maxHeartbeats 1000000 in
theorem grow_ok {k : Nat} (h : Sr w x A lab O ((k : Int) :: r) ps op u) (c0 : 0 ≤ x.c) (c1 : x.c ≤ 9223372036854775807) (hno : (k : Int) ∉ nums ps) (hop : (k : Int) ∉ op) (hk : k < x.K) (few : ps.length ≤ 1024) :
    Calls Try.prog 60 #[.pointer (some ⟨x.s, 0, none⟩)] w fun e w' => e = .returned (.int .i64 0) ∧ ∃ A' lab', Sr w' x A' lab' (O.set k x.c) r (ps ++ [((k : Int), List.replicate x.B (-1))]) ((k : Int) :: op) u ∧ (∀ i, i < w.heap.size → lab' i = lab i) ∧ But (fun i => lab i ≠ none) w w' := by
  have b1 := h.b1
  have b2 := h.b2
  have k2 := h.pool.k2
  have HC : Hid (∀ v, Below w.heap.size w v → Calls Try.prog 85 #[.pointer (some ⟨x.pp, 0, none⟩), .int .i64 x.c] v (Pl.TakeEnds x.pp x.pa x.K (O.set k x.c, r, (k : Int), 0) v)) := Lib.hid fun v hv => by
    have := Pl.take_any (h.below hv).pool x.c ⟨by omega, c1⟩
    rw [show Pl.takeOut O ((k : Int) :: r) x.c = (O.set k x.c, r, (k : Int), 0) by unfold Pl.takeOut; rw [if_neg (by omega)]; rfl] at this
    exact this
  have HN : Hid (∀ v w', Below w.heap.size w v → Pl.Pm w' x.pp x.pa x.K (O.set k x.c) r → But (Pl.Own x.pp x.pa) v w' → Sr w' x A lab (O.set k x.c) r ps op u ∧ But (fun i => lab i ≠ none) w w') := Lib.hid fun v w' hv hp hb => by
    obtain ⟨r1, r2⟩ := (h.below hv).swim hp hb
    exact ⟨r1, (Below.but hv _).trans r2⟩
  have kW := h.cl.two
  have kD := (h.below (belowD (Below.refl w.heap.size w))).cl.two
  have BD := belowD (Below.refl w.heap.size w)
  have HF := Lib.hid (show ∀ i, lab i ≠ none → i < w.heap.size from h.fin)
  have HO1 := Lib.hid hno
  have HO2 := Lib.hid hop
  clear h c0 c1 hno hop
  go_enter Try.func60, Try.ntmps60
  go_wp2_with fail
  go_region_held3 (fun w' => w'.cell? ⟨x.s, 0, none⟩ = some (.pointer (some ⟨x.pp, 0, none⟩)) ∧ w'.cell? ⟨x.s, 1, none⟩ = some (.int .i64 x.c))
    (first | with_reducible exact kD | with_reducible exact k4 | with_reducible exact kW | go_keep)
    ((go_at_call 85; refine (HC.out _ ?_).mono ?_; exact BD; rintro e w4 ⟨rfl, r4, b4⟩; have k4 := (HN.out _ _ BD r4 b4).1.cl.two))
  have HZ := Lib.hid (HN.out _ _ BD r4 b4)
  have k42 := HZ.out.1.cl.k2
  clear r4 b4 k4 kW kD BD HC HN
  have HP := Lib.hid (Pg.pageNew_ok (x.B : Int) (by omega) (by omega) w4)
  go_wp2_with fail
  refine HP.out.mono ?_
  rintro e w5 ⟨p, b, m, rfl, r5, b5, l1, l2, l3⟩
  rw [Int.toNat_natCast] at r5
  have H5 := HZ.out.1.below b5
  have k53 := H5.cl.k3
  obtain ⟨w6, hr6, m6, b6⟩ := H5.map.put (n := (k : Int)) HO1.out ⟨by omega, by omega⟩ few (p, b, m) (List.replicate x.B (-1))
  have HR6 := Lib.hid hr6
  have sz4 := HZ.out.2.size
  have fr : ∀ i, w4.heap.size ≤ i → lab i = none := fun i hi => by
    cases hq : lab i with
    | none => rfl
    | some z => have := HF.out i (by rw [hq]; simp); omega
  obtain ⟨H6, B6⟩ := H5.put (p, b, m) (by omega) r5 (fr _ l1) (fr _ l2) (fr _ l3) HO1.out m6 b6
  have HB6 := Lib.hid (HZ.out.2.trans ((Below.but b5 _).trans B6))
  have AG : Hid (∀ i, i < w.heap.size → (fun i => if i = p ∨ i = b ∨ i = m then some (k : Int) else lab i) i = lab i) := Lib.hid fun i hi => if_neg (by omega)
  have k64 := H6.cl.k4
  have H6' := Lib.hid H6
  clear H6 H5 B6 b6 m6 hr6 r5 b5 l1 l2 l3 fr sz4 k42
  go_wp2_with (at_mapUpdate; refine Pg.wpList_mapUpdate_run rfl _ _ _ _ rfl rfl rfl rfl HR6.out ?_)
  have H7 := Lib.hid (Rop.push H6'.out.ring hk HO2.out)
  go_wp2_with fail
  refine H7.out.mono ?_
  rintro e w7 ⟨rfl, r7, b7⟩
  obtain ⟨H8, B8⟩ := H6'.out.turn r7 b7
  have H8' := Lib.hid H8
  have B8' : Hid (But (fun i => lab i ≠ none) w w7) := Lib.hid (HB6.out.then B8 fun i hi q => by rw [AG.out i hi] at q; exact q)
  clear H8 B8 r7 b7
  go_wp2
  go_ret
  exact ⟨rfl, _, _, H8'.out, AG.out, B8'.out⟩
end
end Go.Proofs.Ytfkegbipfekbdaa.Sh
