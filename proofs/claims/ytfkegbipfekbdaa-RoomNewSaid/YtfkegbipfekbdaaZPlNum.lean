import Derived.Test.YtfkegbipfekbdaaZPg
import Derived.OwnWalk
import Derived.Test.YtfkegbipfekbdaaZPgBits
import Derived.Lib.Hide
/-
  Package page: New, Take, Give, Own.
-/
namespace Go.Proofs.Ytfkegbipfekbdaa.Pg
open Go.ChangeShapes Go.WideShapes Go.ChangeAt Go.RowKit
set_option maxRecDepth 100000
open Go.Maps (Keyed)

/-! ### The map behind a store, and behind a delete -/
theorem keyLit (x : Int) : WideAt.IsKeyLit (.int .i64 x) := trivial
theorem ne_key {x y : Int} (h : x ≠ y) : (Lit.int .i64 x) ≠ (Lit.int .i64 y) := fun e => h (by injection e)
section
variable {D : DataW Unit} {X : List Int} {k : Nat} {o : Int}
theorem count_set_true {L : List Bool} {k : Nat} (hk : k < L.length) (h : bt L k = false) : (L.set k true).count true = L.count true + 1 := by
  have hg := bt_get hk
  rw [h, List.getElem?_eq_getElem hk] at hg
  injection hg with hg
  rw [List.count_set hk, hg]
  simp
theorem count_set_false {L : List Bool} {k : Nat} (hk : k < L.length) (h : bt L k = true) : (L.set k false).count true + 1 = L.count true := by
  have hg := bt_get hk
  rw [h, List.getElem?_eq_getElem hk] at hg
  injection hg with hg
  have hp : 0 < L.count true := List.count_pos_iff.2 (by rw [← hg]; exact List.getElem_mem hk)
  rw [List.count_set hk, hg]
  simp
  omega
theorem usedN_fill (hk : k < X.length) (h : ow X k = -1) (ho : 0 ≤ o) : usedN (X.set k o) = usedN X + 1 := by
  unfold usedN
  rw [used_set, show (o != -1) = true by simp; omega, count_set_true (by rw [used_len]; exact hk) (by rw [used_bt, h]; rfl)]
theorem usedN_again (hk : k < X.length) (h : ow X k ≠ -1) (ho : 0 ≤ o) : usedN (X.set k o) = usedN X := by
  unfold usedN
  rw [used_set, show (o != -1) = true by simp; omega]
  congr 1
  apply List.ext_getElem?
  intro j
  by_cases q : k = j
  · subst q
    rw [List.getElem?_set_self (by rw [used_len]; exact hk), bt_get (by rw [used_len]; exact hk), used_bt]
    simp [h]
  · rw [List.getElem?_set_ne q]
theorem usedN_free (hk : k < X.length) (h : ow X k ≠ -1) : usedN (X.set k (-1)) + 1 = usedN X := by
  unfold usedN
  rw [used_set, show ((-1 : Int) != -1) = false by rfl]
  exact count_set_false (by rw [used_len]; exact hk) (by rw [used_bt]; simpa using h)
theorem Kept.put (h : Kept D X) (hd : Maps.Tidy D) (hk : k < X.length) (ho : 0 ≤ o) : Kept (D.put (.int .i64 (k : Int)) (.lit (.int .i64 o))) (X.set k o) := by
  refine ⟨fun i => ?_, fun i hi => ?_, ?_⟩
  · rw [ownerOf_set hk]
    by_cases e : i = (k : Int)
    · subst e
      rw [if_pos rfl, Maps.has_put_same hd.isMap (keyLit _)]
      simp
      omega
    · rw [if_neg e, Maps.has_put_other (ne_key e), h.has]
  · rw [ownerOf_set hk] at hi ⊢
    by_cases e : i = (k : Int)
    · subst e
      rw [if_pos rfl, Maps.atKey_put_same hd.isMap (keyLit _)]
    · rw [if_neg e] at hi ⊢
      rw [Maps.atKey_put_other (ne_key e), h.at_ i hi]
  · rw [Maps.size_put hd, h.has, ownerOf_nat hk]
    by_cases q : ow X k = -1
    · rw [q, usedN_fill hk q ho, h.size]
      simp
    · rw [usedN_again hk q ho, h.size]
      simp [q]
theorem Kept.del (h : Kept D X) (hd : Maps.Tidy D) (hk : k < X.length) (q : ow X k ≠ -1) : Kept (D.del (.int .i64 (k : Int))) (X.set k (-1)) := by
  refine ⟨fun i => ?_, fun i hi => ?_, ?_⟩
  · rw [ownerOf_set hk]
    by_cases e : i = (k : Int)
    · subst e
      rw [if_pos rfl, Maps.has_del_same]
      rfl
    · rw [if_neg e, Maps.has_del_other (ne_key e), h.has]
  · rw [ownerOf_set hk] at hi ⊢
    by_cases e : i = (k : Int)
    · rw [if_pos e] at hi
      exact absurd rfl hi
    · rw [if_neg e] at hi ⊢
      rw [Maps.atKey_del_other (ne_key e), h.at_ i hi]
  · have h1 := Maps.size_del (k := .int .i64 (k : Int)) hd
    have e : (ow X k != -1) = true := by simpa using q
    rw [h.has, ownerOf_nat hk, e, h.size] at h1
    have h2 := usedN_free hk q
    simp at h1
    omega
end
/-- A map that is known to have so many entries has no more. -/
theorem owns_tight {w : World} {m n : Nat} {D : DataW Unit} {R : Value → Option (DataW Unit × List MemPlace)} (h : w.ownsMap Try.prog 3 R m n D) : w.ownsMap Try.prog 3 R m (Maps.size D) D := by
  obtain ⟨es, clock, he, F, hs, rfl⟩ := h
  exact ⟨es, clock, he, F, by simp [Maps.size, length_sorted], rfl⟩
theorem turned_but {w w' : World} {m : Nat} (h : w.mapTurned w' m) : But (· = m) w w' := by
  have g := h.grown
  exact ⟨g.os, g.tape, g.output, g.size, fun k hk hn => g.block k hk (fun e => hn (by injection e))⟩

section
variable {w w' : World} {p b m : Nat} {X : List Int} {k : Nat} {o : Int}
/-- How a call of a Page ends that answers z: its owners are X then, and nothing but its two blocks may have turned. -/
def PgEnds (v : Value) (p b m : Nat) (X : List Int) (w : World) (e : Ending) (w' : World) : Prop := e = .returned v ∧ Pm w' p b m X ∧ But (fun i => i = b ∨ i = m) w w'

theorem Om.put (h : Om w m X) (hk : k < X.length) (hl : X.length ≤ 512) (ho : 0 ≤ o) (hm : o ≤ 9223372036854775807) :
    ∃ w', (Instr.mapUpdate 114 (.map (some m)) (.int .i64 (k : Int)) (.int .i64 o)).run Try.prog w = .ok () w' ∧ Om w' m (X.set k o) ∧ But (· = m) w w' := by
  obtain ⟨D, hown, kp⟩ := h
  have hu := used_le X
  obtain ⟨w', hr, h1, h2⟩ := hown.store intKeys Try.underlying114 (by unfold maxLen; omega) (key64 (x := (k : Int)) (by omega)) (plainElem_int Try.underlying3 (wf64 (x := o) (by omega)))
  have kp' := kp.put (hown.tidy intKeys) hk ho
  refine ⟨w', hr, ⟨_, ?_, kp'⟩, turned_but h2⟩
  rw [← kp'.size]
  exact owns_tight h1
theorem Om.del (h : Om w m X) (hk : k < X.length) (hl : X.length ≤ 512) (q : ow X k ≠ -1) (ty : TypeId) :
    ∃ w', (Builtin.delete_ #[114, 3] ty #[.map (some m), .int .i64 (k : Int)]).run Try.prog w = .ok (.tuple #[]) w' ∧ Om w' m (X.set k (-1)) ∧ But (· = m) w w' := by
  obtain ⟨D, hown, kp⟩ := h
  obtain ⟨w', hr, h1, h2⟩ := hown.drop intKeys Try.underlying114 (key64 (x := (k : Int)) (by omega)) ty
  have kp' := kp.del (hown.tidy intKeys) hk q
  refine ⟨w', hr, ⟨_, ?_, kp'⟩, turned_but h2⟩
  rw [← kp'.size]
  exact owns_tight h1
end

/-! ### At the operation, for the walk -/
section
variable {P : Program} {w : World} {ops : Array Oper} {rest : List Oper} {o : Oper} {a : Act} {Q : Exit → Act → World → Prop}
theorem wpList_mapUpdate_run (hg : o.guard = none) (m x v : Operand) (t : TypeId) (hop : o.op = Op.mapUpdate t m x v) {mv key val : Value} (hm : a.eval m = mv) (hx : a.eval x = key) (hv : a.eval v = val) {w' : World}
    (hr : (Instr.mapUpdate t mv key val).run P w = .ok () w') (hK : wpList P ops Q rest (a.put o.dst undef) w') : wpList P ops Q (o :: rest) a w := by
  refine wpList_plain hg fun K' hK' => ?_
  unfold Oper.wp
  simp [execOp, hop, hm, hx, hv, hr, Result.andThen]
  exact hK' _ _ hK
theorem wpList_delete_run (hg : o.guard = none) (m x : Operand) (t k : TypeId) (hop : o.op = Op.call { callee := Callee.builtin Builtin.delete, args := #[m, x], argTypes := #[t, k] }) {mv key : Value} (hm : a.eval m = mv) (hx : a.eval x = key) {R : World → Prop}
    (hr : ∀ ty, ∃ w', (Builtin.delete_ #[t, k] ty #[mv, key]).run P w = .ok (.tuple #[]) w' ∧ R w') (hK : ∀ w', R w' → wpList P ops Q rest (a.put o.dst (.tuple #[])) w') : wpList P ops Q (o :: rest) a w := by
  refine wpList_plain hg fun K' hK' => ?_
  obtain ⟨w', h1, h2⟩ := hr o.type
  unfold Oper.wp
  simp [execOp, hop, resolve, invoke, builtin, hm, hx, h1, Result.andThen]
  exact hK' _ _ (hK w' h2)
end

/-! ### New -/
theorem pageNew_bad (n : Int) (h : n < 1 ∨ 512 < n) (w : World) :
    Calls Try.prog 53 #[.int .i64 n] w fun e w' => e = .returned (.tuple #[.pointer none, .int .i64 1]) ∧ w = w' := by
  have H := Lib.hid (new_bad n h w)
  clear h
  go_enter Try.func53, Try.ntmps53
  go_wp2_with fail
  refine H.out.mono ?_
  rintro e w' ⟨rfl, rfl⟩
  go_wp2
  go_ret2
  exact ⟨rfl, rfl⟩
/-- How New ends: a Page in block p, all of its blocks free. -/
def PgNew (n : Int) (w : World) (e : Ending) (w' : World) : Prop :=
  ∃ p b m, e = .returned (.tuple #[.pointer (some ⟨p, 0, none⟩), .int .i64 0]) ∧ Pm w' p b m (List.replicate n.toNat (-1)) ∧ Below w.heap.size w w' ∧ w.heap.size ≤ p ∧ w.heap.size ≤ b ∧ w.heap.size ≤ m
theorem kept_new (n : Nat) : Kept (.map []) (List.replicate n (-1)) := by
  have ho : ∀ i : Int, ownerOf (List.replicate n (-1)) i = -1 := fun i => by
    unfold ownerOf ow
    split
    · rw [List.getElem?_replicate]; split <;> rfl
    · rfl
  refine ⟨fun i => by rw [ho]; rfl, fun i hi => absurd (ho i) hi, ?_⟩
  unfold usedN
  rw [used_new, List.count_replicate]
  rfl
theorem pageNew_ok (n : Int) (h1 : 1 ≤ n) (h2 : n ≤ 512) (w : World) : Calls Try.prog 53 #[.int .i64 n] w (PgNew n w) := by
  have H := Lib.hid (new_ok n h1 h2 w)
  have hmm := @run_makeMap Try.prog
  have HN : Hid (0 ≤ n) := Lib.hid (by omega)
  clear h1 h2
  go_enter Try.func53, Try.ntmps53
  go_wp2_with fail
  refine H.out.mono ?_
  rintro e w1 ⟨rfl, r1, b1, l1⟩
  have R1' := Lib.hid r1
  have B1 := Lib.hid b1
  have L1 := Lib.hid l1
  clear r1 b1 l1 H
  obtain ⟨b, hb⟩ : ∃ b, b = w.heap.size := ⟨_, rfl⟩
  have HB := Lib.hid hb
  rw [← hb] at R1' L1 ⊢
  clear hb
  go_wp2
  go_ret2
  have bb := below2 w1 (.map #[] 0) (.cells #[.pointer (some ⟨b, 0, none⟩), .int .i64 n, .map (some w1.heap.size)] 116)
  have ll := L1.out
  have lb := HB.out
  have hn : ((List.replicate n.toNat (-1 : Int)).length : Int) = n := by rw [List.length_replicate, Int.toNat_of_nonneg HN.out]
  have hu : usedN (List.replicate n.toNat (-1 : Int)) = 0 := by rw [← (kept_new n.toNat).size]; rfl
  refine ⟨w1.heap.size + 1, b, w1.heap.size, rfl, ⟨by simp, by rw [hn]; simp, by simp, ?_, ⟨.map [], ?_, kept_new _⟩, ?_, by omega, by omega, by omega⟩, belowT B1.out bb, ?_, ?_, ?_⟩
  · rw [used_new]; exact R1'.out.below bb
  · rw [hu]
    exact (World.ownsMap_made w1 _ _ _).alloc _
  · intro x hx
    rw [List.eq_of_mem_replicate hx]
    omega
  · omega
  · omega
  · omega
end Go.Proofs.Ytfkegbipfekbdaa.Pg
/-
  Pages as plain lists: the owners of all of them, and the free ones in the turn in which they are taken; what Take and Give come to. No statement about a Go function.
-/
namespace Go.Proofs.Ytfkegbipfekbdaa.Pl
open Go.ChangeShapes Go.WideShapes Go.ChangeAt Go.RowKit
set_option maxRecDepth 100000

/-- Is a number one of N, from 0 on? -/
def inB (N : Nat) (i : Int) : Bool := decide (0 ≤ i) && decide (i < (N : Int))
theorem inB_nat {N : Nat} {i : Int} (h : inB N i = true) : ∃ k : Nat, i = (k : Int) ∧ k < N := by
  simp [inB] at h
  exact ⟨i.toNat, by omega, by omega⟩
theorem inB_of {N k : Nat} (h : k < N) : inB N (k : Int) = true := by simp [inB]; omega
/-- The first free page; how many pages there are, if none is free. -/
def hd (K : Nat) : List Int → Int
  | [] => (K : Int)
  | x :: _ => x
/-- A whole number of 64 bits. -/
def Fit (x : Int) : Prop := -9223372036854775808 ≤ x ∧ x ≤ 9223372036854775807
/-- K pages, of which O are the owners, and fl the free ones. -/
structure Pw (K : Nat) (O fl : List Int) : Prop where
  len : O.length = K
  fit : ∀ x ∈ O, Fit x
  free : ∀ x ∈ fl, ∃ k : Nat, x = (k : Int) ∧ O[k]? = some (-1)
  once : fl.Nodup
  cnt : fl.length = O.count (-1)
section
variable {K : Nat} {O fl r : List Int} {x : Int}
theorem Pw.few (h : Pw K O fl) : fl.length ≤ K := by rw [h.cnt, ← h.len]; exact List.count_le_length
theorem Pw.lt (h : Pw K O fl) (hx : x ∈ fl) : ∃ k : Nat, x = (k : Int) ∧ k < K := by
  obtain ⟨k, e, hk⟩ := h.free x hx
  exact ⟨k, e, by rw [← h.len]; exact (List.getElem?_eq_some_iff.1 hk).1⟩
theorem Pw.head (h : Pw K O fl) : 0 ≤ hd K fl ∧ hd K fl ≤ (K : Int) := by
  cases fl with
  | nil => simp [hd]
  | cons x r =>
    obtain ⟨k, e, hk⟩ := h.lt (x := x) (by simp)
    simp only [hd]
    omega
theorem Pw.flFit (h : Pw K O fl) (hK : K ≤ 1024) (hx : x ∈ fl) : Fit x := by
  obtain ⟨k, e, hk⟩ := h.lt hx
  unfold Fit
  omega
theorem Pw.take {k : Nat} {o : Int} (h : Pw K O ((k : Int) :: r)) (h0 : 0 ≤ o) (ho : Fit o) : Pw K (O.set k o) r := by
  obtain ⟨k', e, hk⟩ := h.free (k : Int) (by simp)
  have e' : k' = k := by omega
  subst e'
  obtain ⟨hlt, hget⟩ := List.getElem?_eq_some_iff.1 hk
  obtain ⟨hn, hd⟩ := List.nodup_cons.1 h.once
  refine ⟨by rw [List.length_set]; exact h.len, fun y hy => ?_, fun y hy => ?_, hd, ?_⟩
  · rcases List.mem_or_eq_of_mem_set hy with q | q
    · exact h.fit y q
    · rw [q]; exact ho
  · obtain ⟨j, e, hj⟩ := h.free y (by simp [hy])
    refine ⟨j, e, ?_⟩
    rw [List.getElem?_set_ne (fun q => hn (by rw [q, ← e]; exact hy))]
    exact hj
  · have := h.cnt
    rw [List.length_cons] at this
    rw [List.count_set hlt, hget, if_pos (by simp), if_neg (by simp; omega)]
    omega
theorem Pw.give {k : Nat} (h : Pw K O fl) (hk : O[k]? = some x) (hx : x ≠ -1) : Pw K (O.set k (-1)) ((k : Int) :: fl) := by
  obtain ⟨hlt, hget⟩ := List.getElem?_eq_some_iff.1 hk
  refine ⟨by rw [List.length_set]; exact h.len, fun y hy => ?_, fun y hy => ?_, List.nodup_cons.2 ⟨fun q => ?_, h.once⟩, ?_⟩
  · rcases List.mem_or_eq_of_mem_set hy with q | q
    · exact h.fit y q
    · rw [q]; unfold Fit; omega
  · rcases List.mem_cons.1 hy with q | q
    · exact ⟨k, q, by rw [List.getElem?_set_self hlt]⟩
    · obtain ⟨j, e, hj⟩ := h.free y q
      refine ⟨j, e, ?_⟩
      by_cases z : k = j
      · subst z; rw [List.getElem?_set_self hlt]
      · rw [List.getElem?_set_ne z]; exact hj
  · obtain ⟨j, e, hj⟩ := h.free _ q
    have e' : j = k := by omega
    subst e'
    rw [hk] at hj
    exact hx (Option.some.inj hj)
  · have := h.cnt
    rw [List.length_cons, List.count_set hlt, hget, if_neg (by simpa using hx), if_pos (by simp)]
    omega
theorem Pw.ofK (h : Pw K O fl) {k : Nat} (hk : k < K) : ∃ x, O[k]? = some x ∧ Fit x := by
  have hl : k < O.length := by rw [h.len]; exact hk
  exact ⟨O[k], List.getElem?_eq_getElem hl, h.fit _ (List.getElem_mem hl)⟩
end

/-- What Take comes to: owners, free ones, page, error. -/
def takeOut (O fl : List Int) (o : Int) : List Int × List Int × Int × Int :=
  if o < 0 then (O, fl, 0, 1) else match fl with
    | [] => (O, [], 0, 5)
    | x :: r => (O.set x.toNat o, r, x, 0)
/-- What Give comes to: owners, free ones, error. -/
def giveOut (O fl : List Int) (i : Int) : List Int × List Int × Int :=
  if inB O.length i = true then (if O[i.toNat]? = some (-1) then (O, fl, 9) else (O.set i.toNat (-1), i :: fl, 0)) else (O, fl, 1)
/-- What Owner comes to. -/
def ownOut (O : List Int) (i : Int) : Int := if inB O.length i = true then (O[i.toNat]?).getD (-1) else -1
/-- All pages free. -/
def freed (K : Nat) : List Int := List.replicate K (-1)
def turns (K : Nat) : List Int := (List.range K).map Int.ofNat
theorem turns_at {K j : Nat} (hj : j < K) : (turns K)[j]? = some (j : Int) := by
  unfold turns
  rw [List.getElem?_map, List.getElem?_range hj]
  rfl
theorem turns_len (K : Nat) : (turns K).length = K := by simp [turns]
theorem mem_turns {K : Nat} {x : Int} (h : x ∈ turns K) : ∃ k : Nat, x = (k : Int) ∧ k < K := by
  unfold turns at h
  obtain ⟨k, hk, e⟩ := List.mem_map.1 h
  exact ⟨k, e.symm, List.mem_range.1 hk⟩
theorem Pw.new (K : Nat) : Pw K (freed K) (turns K) := by
  refine ⟨by simp [freed], fun x hx => ?_, fun x hx => ?_, ?_, ?_⟩
  · rw [(List.mem_replicate.1 hx).2]; unfold Fit; omega
  · obtain ⟨k, e, hk⟩ := mem_turns hx
    exact ⟨k, e, by unfold freed; rw [List.getElem?_replicate, if_pos hk]⟩
  · unfold turns
    exact List.Pairwise.map _ (fun a b hab q => hab (Int.ofNat.inj q)) (List.nodup_range (n := K))
  · rw [turns_len]; simp [freed]
end Go.Proofs.Ytfkegbipfekbdaa.Pl
