import Derived.Test.YtfkegbipfekbdaaZRmCharge
import Derived.Test.YtfkegbipfekbdaaZShGive
import Derived.Defers
/-
  Package room: Take, Give, Own, of any arguments; and of a room that is nil.
-/
namespace Go.Proofs.Ytfkegbipfekbdaa.Room
open Go.ChangeShapes Go.WideShapes Go.ChangeAt Go.RowKit
open Sh (Shl Ps Sw Uw Sr Sm Fx Adr Lab Nxt Far nums usedS mem_nums takeOut giveOut ownOut)
set_option maxRecDepth 100000

section
variable {w : World} {y : Gx} {x : Nat → Fx} {A : Nat → Adr} {lab : Nat → Lab} {V : Int → Value} {Q : Nat → Prop} {r : Rom} {m : Nat} {l : Int} {k : Nat}
theorem set_self {l : List (Ps × List Int)} {k : Nat} {q : Ps × List Int} (h : l[k]? = some q) : l.set k q = l := by
  apply List.ext_getElem?
  intro i
  by_cases e : k = i
  · subst e
    obtain ⟨hk, _⟩ := List.getElem?_eq_some_iff.1 h
    rw [List.getElem?_set_self hk, h]
  · rw [List.getElem?_set_ne e]
theorem same_rom (h : RWf y.K y.c.cn (blk y.c) r) (hk : k < y.c.cn) : (⟨(shelf r k).O, (shelf r k).fl, r.sh.set k ((shelf r k).ps, (shelf r k).op), r.lg, r.st + 0 + 4 * dist r.fl.length (shelf r k).fl.length⟩ : Rom) = r := by
  rw [set_self (shelf_at (by rw [h.len]; exact hk))]
  have e : dist r.fl.length (shelf r k).fl.length = 0 := by
    show dist r.fl.length r.fl.length = 0
    unfold dist
    omega
  rw [e]
  have : r.st + 0 + 4 * 0 = r.st := by omega
  rw [this]
  rfl
theorem GN.same (h : Gw w y x A lab V Q m l r) : GN y x lab Q m r w w := ⟨A, lab, V, Q, h.gm, fun _ _ q => q, But.refl _ _⟩
theorem gtake_out (h : Gw w y x A lab V Q m l r) (k o : Int) (hk : ¬ isK r k = true) :
    Calls Try.prog 12 #[.pointer (some ⟨y.g, 0, none⟩), .int .i64 k, .int .i64 o] w (GmEnds (.tuple #[.int .i64 0, .int .i64 0, .int .i64 1]) y x lab Q m l r w) := by
  have H := Lib.hid (gshelf_out h.gm.cl (no_isK h.gm hk))
  have HE := Lib.hid (And.intro (GN.same h) h.mt)
  clear h hk
  go_enter_defers Try.func12, Try.ntmps12
  go_wp2_with fail
  refine H.out.mono ?_
  rintro e w' ⟨rfl, rfl⟩
  go_wp2
  refine ⟨.tuple #[.int .i64 0, .int .i64 0, .int .i64 1], by simp [results, Try.results12, go_sem], rfl, HE.out.1, HE.out.2⟩
set_option maxHeartbeats 1000000 in
theorem gtake_in (h : Gw w y x A lab V Q m l r) (hk : k < y.c.cn) (o : Int) (ho : o ≤ 9223372036854775807) {s : Shl} {p i e : Int} (hs : takeOut (k : Int) (blk y.c k) (shelf r k) o = (s, p, i, e)) :
    Calls Try.prog 12 #[.pointer (some ⟨y.g, 0, none⟩), .int .i64 (k : Int), .int .i64 o] w (GmEnds (.tuple #[.int .i64 p, .int .i64 i, .int .i64 e]) y x lab Q m l (if e = 0 then withS r k s else r) w) := by
  obtain ⟨sw, uw⟩ := h.gm.wf.each k hk
  obtain ⟨t1, t2⟩ := take_spares (o := o) sw
  rw [hs] at t1 t2
  have k1 := h.gm.cl.k1
  have H := Lib.hid (gshelf_in h.gm.cl hk)
  have eh : (y.K : Int) - (r.fl.length : Int) = heldR r := h.gm.held.2.2.symm
  have HH := Lib.hid (Pl.held_any h.gm.pool)
  rw [eh] at HH
  have HT : Hid (∀ n, Calls Try.prog 38 #[.pointer (some ⟨(x k).s, 0, none⟩), .int .i64 o] (w.drewN n) (Sh.ShEnds (.tuple #[.int .i64 p, .int .i64 i, .int .i64 e]) (x k) (lab k) s (w.drewN n))) := Lib.hid fun n => by
    have := Sh.take_any ((h.gm.drewN n).sm hk) o ho
    rw [h.gm.fx.c k hk, h.gm.fx.B k hk, hs] at this
    exact this
  have HB := Lib.hid (fun n w2 (hn : Nxt (x k) (lab k) s (w.drewN n) w2) => h.behind hk t1 t2 hn)
  have HST := Lib.hid h.st
  by_cases he : e = 0
  · rw [if_pos he]
    subst he
    have d0 : ((0 : Int) == 0) = true := rfl
    have em : more r.st 3 = r.st + 3 := by have := h.st; unfold more; split <;> omega
    clear h hk hs sw uw t1 t2 eh
    go_enter_defers Try.func12, Try.ntmps12
    go_wp2_with fail
    refine H.out.mono ?_
    rintro e w' ⟨rfl, rfl⟩
    go_wp2_with fail
    refine HH.out.mono ?_
    rintro e w' ⟨rfl, n, rfl⟩
    go_wp2_with fail
    refine (HT.out n).mono ?_
    rintro e w2 ⟨rfl, hn⟩
    obtain ⟨c0, m2, hb⟩ := HB.out n w2 hn
    have HC := Lib.hid (charge_any m r.st l 3 w2 m2)
    rw [em] at HC
    have HE := Lib.hid hb
    clear hn hb m2
    go_wp2_with fail
    refine HC.out.mono ?_
    rintro e w3 ⟨rfl, m3, b3⟩
    have HF := Lib.hid (HE.out 3 w3 (by omega) m3 b3)
    clear m3 b3
    go_wp2
    refine leaves_cons (f := 37) (args := #[.pointer (some ⟨y.g, 0, none⟩), .int .i64 (heldR r)]) (by simp) (by simp [go_sem]) ?_
    refine HF.out.mono ?_
    rintro e u' w'' ⟨rfl, rfl, q1, q2⟩
    refine ⟨.tuple #[.int .i64 p, .int .i64 i, .int .i64 0], by simp [results, Try.results12, go_sem], rfl, q1, q2⟩
  · rw [if_neg he]
    have d0 : (e == 0) = false := by simpa using he
    have es : s = shelf r k := by
      unfold takeOut at hs
      split at hs
      · injection hs with q _
        exact q.symm
      · split at hs
        · injection hs with q _
          exact q.symm
        · simp only [Prod.mk.injEq] at hs
          omega
    subst es
    have HR := Lib.hid (same_rom h.gm.wf hk)
    clear h hk hs sw uw t1 t2 eh he
    go_enter_defers Try.func12, Try.ntmps12
    go_wp2_with fail
    refine H.out.mono ?_
    rintro e w' ⟨rfl, rfl⟩
    go_wp2_with fail
    refine HH.out.mono ?_
    rintro e w' ⟨rfl, n, rfl⟩
    go_wp2_with fail
    refine (HT.out n).mono ?_
    rintro e w2 ⟨rfl, hn⟩
    obtain ⟨c0, m2, hb⟩ := HB.out n w2 hn
    have HF := Lib.hid (hb 0 w2 (by omega) (by rw [Int.add_zero]; exact m2) (But.refl _ _))
    have es := congrArg Rom.st HR.out
    dsimp only at es
    rw [HR.out, es] at HF
    clear hn hb m2 es
    go_wp2
    refine leaves_cons (f := 37) (args := #[.pointer (some ⟨y.g, 0, none⟩), .int .i64 (heldR r)]) (by simp) (by simp [go_sem]) ?_
    refine HF.out.mono ?_
    rintro e u' w'' ⟨rfl, rfl, q1, q2⟩
    refine ⟨_, by simp [results, Try.results12, go_sem], rfl, q1, q2⟩
theorem gtake_any (h : Gw w y x A lab V Q m l r) (k o : Int) (ho : o ≤ 9223372036854775807) :
    Calls Try.prog 12 #[.pointer (some ⟨y.g, 0, none⟩), .int .i64 k, .int .i64 o] w
      (GmEnds (.tuple #[.int .i64 (takeR (blk y.c) r k o).2.1, .int .i64 (takeR (blk y.c) r k o).2.2.1, .int .i64 (takeR (blk y.c) r k o).2.2.2]) y x lab Q m l (takeR (blk y.c) r k o).1 w) := by
  by_cases hk : isK r k = true
  · obtain ⟨j, rfl, hj⟩ := isK_nat h.gm.wf hk
    obtain ⟨s, p, i, e, hs⟩ : ∃ s p i e, takeOut (j : Int) (blk y.c j) (shelf r j) o = (s, p, i, e) := ⟨_, _, _, _, rfl⟩
    have g := gtake_in h hj o ho hs
    unfold takeR
    rw [if_pos hk, Int.toNat_natCast, hs]
    dsimp only
    by_cases he : e = 0
    · rw [if_pos he] at g ⊢
      rw [he] at g
      exact g
    · rw [if_neg he] at g ⊢
      have z : p = 0 ∧ i = 0 := by
        unfold takeOut at hs
        split at hs
        · simp only [Prod.mk.injEq] at hs
          omega
        · split at hs
          · simp only [Prod.mk.injEq] at hs
            omega
          · simp only [Prod.mk.injEq] at hs
            omega
      rw [z.1, z.2] at g
      exact g
  · have e : takeR (blk y.c) r k o = (r, 0, 0, 1) := by unfold takeR; rw [if_neg hk]
    rw [e]
    exact gtake_out h k o hk
theorem gtake_nil (k o : Int) (w : World) : Calls Try.prog 12 #[.pointer none, .int .i64 k, .int .i64 o] w fun e w' => e = .returned (.tuple #[.int .i64 0, .int .i64 0, .int .i64 1]) ∧ w = w' := by
  have H := Lib.hid (gshelf_nil k w)
  go_enter_defers Try.func12, Try.ntmps12
  go_wp2_with fail
  refine H.out.mono ?_
  rintro e w' ⟨rfl, rfl⟩
  go_wp2
  refine ⟨.tuple #[.int .i64 0, .int .i64 0, .int .i64 1], by simp [results, Try.results12, go_sem], rfl, rfl⟩

/-! ### Give -/
theorem ggive_out (h : Gw w y x A lab V Q m l r) (k n i : Int) (hk : ¬ isK r k = true) :
    Calls Try.prog 15 #[.pointer (some ⟨y.g, 0, none⟩), .int .i64 k, .int .i64 n, .int .i64 i] w (GmEnds (.int .i64 1) y x lab Q m l r w) := by
  have H := Lib.hid (gshelf_out h.gm.cl (no_isK h.gm hk))
  have HE := Lib.hid (And.intro (GN.same h) h.mt)
  clear h hk
  go_enter_defers Try.func15, Try.ntmps15
  go_wp2_with fail
  refine H.out.mono ?_
  rintro e w' ⟨rfl, rfl⟩
  go_wp2
  exact ⟨_, results_tmp rfl _ _ _, rfl, HE.out.1, HE.out.2⟩
theorem give_same {s : Shl} {n i : Int} (h : (giveOut s n i).2 ≠ 0) : (giveOut s n i).1 = s := by
  unfold giveOut at h ⊢
  split at h
  · rfl
  · dsimp only at h ⊢
    split at h
    · rename_i q
      rw [if_pos q]
    · exact absurd (by split <;> rfl) h
set_option maxHeartbeats 1000000 in
theorem ggive_in (h : Gw w y x A lab V Q m l r) (hk : k < y.c.cn) (p i : Int) (hp : Pl.Fit p) {s : Shl} {e : Int} (hs : giveOut (shelf r k) p i = (s, e)) :
    Calls Try.prog 15 #[.pointer (some ⟨y.g, 0, none⟩), .int .i64 (k : Int), .int .i64 p, .int .i64 i] w (GmEnds (.int .i64 e) y x lab Q m l (if e = 0 then withS r k s else r) w) := by
  obtain ⟨sw, uw⟩ := h.gm.wf.each k hk
  obtain ⟨t1, t2⟩ := give_spares (n := p) (at_ := i) sw
  rw [hs] at t1 t2
  have k1 := h.gm.cl.k1
  have H := Lib.hid (gshelf_in h.gm.cl hk)
  have eh : (y.K : Int) - (r.fl.length : Int) = heldR r := h.gm.held.2.2.symm
  have HH := Lib.hid (Pl.held_any h.gm.pool)
  rw [eh] at HH
  have HT : Hid (∀ n, Calls Try.prog 43 #[.pointer (some ⟨(x k).s, 0, none⟩), .int .i64 p, .int .i64 i] (w.drewN n) (Sh.ShEnds (.int .i64 e) (x k) (lab k) s (w.drewN n))) := Lib.hid fun n => by
    have := Sh.give_any ((h.gm.drewN n).sm hk) hp i
    rw [hs] at this
    exact this
  have HB := Lib.hid (fun n w2 (hn : Nxt (x k) (lab k) s (w.drewN n) w2) => h.behind hk t1 t2 hn)
  by_cases he : e = 0
  · rw [if_pos he]
    subst he
    have d0 : ((0 : Int) == 0) = true := rfl
    have em : more r.st 3 = r.st + 3 := by have := h.st; unfold more; split <;> omega
    clear h hk hs sw uw t1 t2 eh hp
    go_enter_defers Try.func15, Try.ntmps15
    go_wp2_with fail
    refine H.out.mono ?_
    rintro e w' ⟨rfl, rfl⟩
    go_wp2_with fail
    refine HH.out.mono ?_
    rintro e w' ⟨rfl, n, rfl⟩
    go_wp2_with fail
    refine (HT.out n).mono ?_
    rintro e w2 ⟨rfl, hn⟩
    obtain ⟨c0, m2, hb⟩ := HB.out n w2 hn
    have HC := Lib.hid (charge_any m r.st l 3 w2 m2)
    rw [em] at HC
    have HE := Lib.hid hb
    clear hn hb m2
    go_wp2_with fail
    refine HC.out.mono ?_
    rintro e w3 ⟨rfl, m3, b3⟩
    have HF := Lib.hid (HE.out 3 w3 (by omega) m3 b3)
    clear m3 b3
    go_wp2
    refine leaves_cons (f := 37) (args := #[.pointer (some ⟨y.g, 0, none⟩), .int .i64 (heldR r)]) (by simp) (by simp [go_sem]) ?_
    refine HF.out.mono ?_
    rintro e u' w'' ⟨rfl, rfl, q1, q2⟩
    exact ⟨_, results_tmp rfl _ _ _, rfl, q1, q2⟩
  · rw [if_neg he]
    have d0 : (e == 0) = false := by simpa using he
    have es : s = shelf r k := by
      have := give_same (s := shelf r k) (n := p) (i := i) (by rw [hs]; exact he)
      rw [hs] at this
      exact this
    subst es
    have HR := Lib.hid (same_rom h.gm.wf hk)
    clear h hk hs sw uw t1 t2 eh he hp
    go_enter_defers Try.func15, Try.ntmps15
    go_wp2_with fail
    refine H.out.mono ?_
    rintro e w' ⟨rfl, rfl⟩
    go_wp2_with fail
    refine HH.out.mono ?_
    rintro e w' ⟨rfl, n, rfl⟩
    go_wp2_with fail
    refine (HT.out n).mono ?_
    rintro e w2 ⟨rfl, hn⟩
    obtain ⟨c0, m2, hb⟩ := HB.out n w2 hn
    have HF := Lib.hid (hb 0 w2 (by omega) (by rw [Int.add_zero]; exact m2) (But.refl _ _))
    have es := congrArg Rom.st HR.out
    dsimp only at es
    rw [HR.out, es] at HF
    clear hn hb m2 es
    go_wp2
    refine leaves_cons (f := 37) (args := #[.pointer (some ⟨y.g, 0, none⟩), .int .i64 (heldR r)]) (by simp) (by simp [go_sem]) ?_
    refine HF.out.mono ?_
    rintro e u' w'' ⟨rfl, rfl, q1, q2⟩
    exact ⟨_, results_tmp rfl _ _ _, rfl, q1, q2⟩
theorem ggive_any (h : Gw w y x A lab V Q m l r) (k p i : Int) (hp : Pl.Fit p) :
    Calls Try.prog 15 #[.pointer (some ⟨y.g, 0, none⟩), .int .i64 k, .int .i64 p, .int .i64 i] w (GmEnds (.int .i64 (giveR r k p i).2) y x lab Q m l (giveR r k p i).1 w) := by
  by_cases hk : isK r k = true
  · obtain ⟨j, rfl, hj⟩ := isK_nat h.gm.wf hk
    obtain ⟨s, e, hs⟩ : ∃ s e, giveOut (shelf r j) p i = (s, e) := ⟨_, _, rfl⟩
    have g := ggive_in h hj p i hp hs
    unfold giveR
    rw [if_pos hk, Int.toNat_natCast, hs]
    dsimp only
    by_cases he : e = 0
    · rw [if_pos he] at g ⊢
      rw [he] at g
      exact g
    · rw [if_neg he] at g ⊢
      exact g
  · have e : giveR r k p i = (r, 1) := by unfold giveR; rw [if_neg hk]
    rw [e]
    exact ggive_out h k p i hk
theorem ggive_nil (k p i : Int) (w : World) : Calls Try.prog 15 #[.pointer none, .int .i64 k, .int .i64 p, .int .i64 i] w (R1 1 w) := by
  have H := Lib.hid (gshelf_nil k w)
  go_enter_defers Try.func15, Try.ntmps15
  go_wp2_with fail
  refine H.out.mono ?_
  rintro e w' ⟨rfl, rfl⟩
  go_wp2
  exact ⟨_, results_tmp rfl _ _ _, rfl, rfl⟩

/-! ### Own -/
theorem gown_of (p : Option Addr) (k n i o z : Int) (q : Option Addr) (w : World) {R : World → Prop} (h : Calls Try.prog 36 #[.pointer p, .int .i64 k] w (V1 (.pointer q) w))
    (h2 : Calls Try.prog 44 #[.pointer q, .int .i64 n, .int .i64 i, .int .i64 o] w fun e w' => e = .returned (.int .i64 z) ∧ R w') :
    Calls Try.prog 16 #[.pointer p, .int .i64 k, .int .i64 n, .int .i64 i, .int .i64 o] w fun e w' => e = .returned (.int .i64 z) ∧ R w' := by
  have H := Lib.hid h
  have H2 := Lib.hid h2
  clear h h2
  go_enter Try.func16, Try.ntmps16
  go_wp2_with fail
  refine H.out.mono ?_
  rintro e w' ⟨rfl, rfl⟩
  go_wp2_with fail
  refine H2.out.mono ?_
  rintro e w' ⟨rfl, hr⟩
  have HR := Lib.hid hr
  clear hr
  go_wp2
  go_ret
  exact ⟨rfl, HR.out⟩
theorem own_same {s : Shl} {n i o : Int} (h : (ownOut s n i o).2 ≠ 0) (hn : (nums s.ps).Nodup) : (ownOut s n i o).1 = s := by
  unfold ownOut at h ⊢
  split at h
  · rfl
  · rename_i X hX
    dsimp only at h ⊢
    have e : Pg.ownX X i o = X := by
      unfold Pg.ownX
      unfold Pg.ownE at h
      split
      · rfl
      · split
        · rfl
        · rename_i q1 q2
          rw [if_neg q1, if_neg q2] at h
          exact absurd rfl h
    rw [e, Sh.set_self hn (Sh.get_mem hX)]
theorem gown_any (h : Gw w y x A lab V Q m l r) (k p i o : Int) (hp : Pl.Fit p) (ho : o ≤ 9223372036854775807) :
    Calls Try.prog 16 #[.pointer (some ⟨y.g, 0, none⟩), .int .i64 k, .int .i64 p, .int .i64 i, .int .i64 o] w (GmEnds (.int .i64 (ownR r k p i o).2) y x lab Q m l (ownR r k p i o).1 w) := by
  by_cases hk : isK r k = true
  · obtain ⟨j, rfl, hj⟩ := isK_nat h.gm.wf hk
    obtain ⟨sw, uw⟩ := h.gm.wf.each j hj
    obtain ⟨t1, t2, t3⟩ := own_spares (s := shelf r j) (n := p) (at_ := i) (o := o)
    refine (gown_of _ _ _ _ _ _ _ w (gshelf_in h.gm.cl hj) (Sh.own_any (h.gm.sm hj) hp i o ho)).mono ?_
    rintro e w2 ⟨rfl, hn⟩
    obtain ⟨A', lab', g2, sub, b2⟩ := h.gm.turn hj hn (by rw [t1]; exact Spares.refl _ _) (by rw [t2, t3]; rfl)
    have m2 := h.mt.but b2 h.apart
    unfold ownR
    rw [if_pos hk, Int.toNat_natCast]
    dsimp only
    by_cases he : (ownOut (shelf r j) p i o).2 = 0
    · rw [if_pos he, he]
      exact ⟨rfl, ⟨A', lab', V, Q, g2, sub, b2.mono fun _ _ q => Or.inl q⟩, m2⟩
    · rw [if_neg he]
      rw [own_same he sw.nod] at g2
      have e : putS r j (shelf r j) = r := by
        unfold putS
        rw [set_self (shelf_at (by rw [h.gm.wf.len]; exact hj))]
        rfl
      rw [e] at g2
      exact ⟨rfl, ⟨A', lab', V, Q, g2, sub, b2.mono fun _ _ q => Or.inl q⟩, m2⟩
  · have e : ownR r k p i o = (r, 1) := by unfold ownR; rw [if_neg hk]
    rw [e]
    refine (gown_of _ _ _ _ _ _ _ w (gshelf_out h.gm.cl (no_isK h.gm hk)) (Sh.own_nil p i o w)).mono ?_
    rintro e w2 ⟨rfl, rfl⟩
    exact ⟨rfl, GN.same h, h.mt⟩
theorem gown_nil (k p i o : Int) (w : World) : Calls Try.prog 16 #[.pointer none, .int .i64 k, .int .i64 p, .int .i64 i, .int .i64 o] w (R1 1 w) := by
  refine (gown_of _ _ _ _ _ _ _ w (gshelf_nil k w) (Sh.own_nil p i o w)).mono ?_
  rintro e w2 ⟨rfl, rfl⟩
  exact ⟨rfl, rfl⟩
end
end Go.Proofs.Ytfkegbipfekbdaa.Room
