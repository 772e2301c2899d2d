import Derived.Test.YtfkegbipfekbdaaZClassNum
import Derived.Test.YtfkegbipfekbdaaZPgBits
import Derived.Defers
import Derived.BigQuiet
import Derived.Deep.RegionLaw
import Derived.Test.YtfkegbipfekbdaaRows
import Derived.Deep.AppendLies
import Derived.Deep.RegionHeld3
import Derived.Deep.DeepCutAuto
import Derived.Deep.Onto
import Derived.OwnWalk
import Derived.Laws.OwnMore
import Derived.BigRegion
import Derived.Deep.Slices
import Derived.OpenShut
import Derived.WalkKit
import Derived.ProofKit
/-
  Plain functions on numbers: what a meter counts. No statement about a Go function.
-/
namespace Go.Proofs.Ytfkegbipfekbdaa
open Go.ChangeShapes Go.WideShapes Go.ChangeAt Go.RowKit

/-- n steps more: none, if n is below 1; 2^62 at most. -/
def more (t n : Int) : Int := if n < 1 then t else if 4611686018427387904 - t < n then 4611686018427387904 else t + n
/-- What some charges come to, from t on. -/
def total (t : Int) (xs : List Int) : Int := xs.foldl more t

theorem more_fit {t : Int} (n : Int) (h0 : 0 ≤ t) (h1 : t ≤ 4611686018427387904) : t ≤ more t n ∧ more t n ≤ 4611686018427387904 := by
  unfold more
  split
  · omega
  · split <;> omega
theorem more_same {t n : Int} : (more t n = t ↔ n < 1 ∨ t = 4611686018427387904) := by
  unfold more
  split
  · omega
  · split <;> omega
theorem more_test (t n : Int) : ((more t n == t) == (decide (n < 1) || (t == 4611686018427387904))) = true := by
  rw [beq_iff_eq, Bool.eq_iff_iff]
  simp [more_same]
theorem total_take {xs : List Int} {k : Nat} {x : Int} (t : Int) (h : xs[k]? = some x) : total t (xs.take (k + 1)) = more (total t (xs.take k)) x := by
  unfold total
  rw [List.take_add_one, h]
  simp
theorem total_fit (xs : List Int) : ∀ {t : Int}, 0 ≤ t → t ≤ 4611686018427387904 → t ≤ total t xs ∧ total t xs ≤ 4611686018427387904 := by
  induction xs with
  | nil => intro t h0 h1; exact ⟨Int.le_refl _, h1⟩
  | cons x xs ih =>
    intro t h0 h1
    have hm := more_fit x h0 h1
    have := ih (t := more t x) (by omega) hm.2
    exact ⟨by show t ≤ total (more t x) xs; omega, this.2⟩
theorem total_zero (xs : List Int) : 0 ≤ total 0 xs ∧ total 0 xs ≤ 4611686018427387904 := total_fit xs (Int.le_refl _) (by omega)
/-- As the code has it: what may be counted of n, and is added. -/
theorem more_code {t : Int} (n : Int) (h0 : 0 ≤ t) (h1 : t ≤ 4611686018427387904) : t + max 0 (min n (4611686018427387904 - t)) = more t n := by
  unfold more
  split
  · omega
  · split <;> omega
end Go.Proofs.Ytfkegbipfekbdaa
/-
  Package meter, each function met by a contract: at a meter that counts t, and was at l at the last lap, Charge counts 'more', Total is t, Lap is t - l; nothing else turns. At nil nothing turns.
-/
namespace Go.Proofs.Ytfkegbipfekbdaa
open Go.ChangeShapes Go.WideShapes Go.ChangeAt Go.RowKit

/-- Block g is a meter that counts t, and was at l at the last lap. -/
structure Mt (w : World) (g : Nat) (t l : Int) : Prop where
  total : w.cell? ⟨g, 0, none⟩ = some (.int .i64 t)
  last : w.cell? ⟨g, 1, none⟩ = some (.int .i64 l)
  free0 : w.frozen? ⟨g, 0, none⟩ = false
  free1 : w.frozen? ⟨g, 1, none⟩ = false
  l0 : 0 ≤ l
  lt : l ≤ t
  t1 : t ≤ 4611686018427387904
section
variable {w w' : World} {g : Nat} {t l : Int}
theorem Mt.size (h : Mt w g t l) : g < w.heap.size := lt_of_cell (p := ⟨g, 0, none⟩) h.total
theorem Mt.but {S : Nat → Prop} (h : Mt w g t l) (hb : But S w w') (hn : ¬ S g) : Mt w' g t l :=
  ⟨(hb.cell (p := ⟨g, 0, none⟩) h.size hn).trans h.total, (hb.cell (p := ⟨g, 1, none⟩) h.size hn).trans h.last, (hb.frozen (p := ⟨g, 0, none⟩) h.size hn).trans h.free0, (hb.frozen (p := ⟨g, 1, none⟩) h.size hn).trans h.free1, h.l0, h.lt, h.t1⟩
theorem Mt.below (h : Mt w g t l) (hb : Below w.heap.size w w') : Mt w' g t l := h.but (Below.but hb fun _ => False) id
theorem Mt.drewN (h : Mt w g t l) (k : Nat) : Mt (w.drewN k) g t l := h.but ((But.refl (fun _ => False) w).drewN k) id
theorem Mt.set0 (h : Mt w g t l) {t' : Int} (h0 : l ≤ t') (h1 : t' ≤ 4611686018427387904) : Mt (w.setCell ⟨g, 0, none⟩ (.int .i64 t')) g t' l :=
  ⟨World.cell?_setCell_same w _ _ h.total, (World.cell?_setCell_other w ⟨g, 0, none⟩ ⟨g, 1, none⟩ _ (by simp)).trans h.last, by simpa using h.free0, by simpa using h.free1, h.l0, h0, h1⟩
theorem Mt.set1 (h : Mt w g t l) {l' : Int} (h0 : 0 ≤ l') (h1 : l' ≤ t) : Mt (w.setCell ⟨g, 1, none⟩ (.int .i64 l')) g t l' :=
  ⟨(World.cell?_setCell_other w ⟨g, 1, none⟩ ⟨g, 0, none⟩ _ (by simp)).trans h.total, World.cell?_setCell_same w _ _ h.last, by simpa using h.free0, by simpa using h.free1, h0, h1, h.t1⟩
end

theorem new_any (w : World) :
    Calls Try.prog 19 #[] w fun e w' => e = .returned (.pointer (some ⟨w.heap.size, 0, none⟩)) ∧ Mt w' w.heap.size 0 0 ∧ Below w.heap.size w w' ∧ w.heap.size < w'.heap.size := by
  go_enter Try.func19, Try.ntmps19
  go_wp2
  go_ret
  exact ⟨rfl, ⟨by simp, by simp, by simp, by simp, by omega, by omega, by omega⟩, below1 w _, by simp⟩

theorem bound_any (g : Nat) (t l n : Int) (w : World) (h : Mt w g t l) :
    Calls Try.prog 66 #[.pointer (some ⟨g, 0, none⟩), .int .i64 n] w (R1 (max 0 (min n (4611686018427387904 - t))) w) := by
  have h0 := h.total
  have l0 := h.l0
  have lt := h.lt
  have t1 := h.t1
  have hw : IntKind.i64.wrap (4611686018427387904 - t) = 4611686018427387904 - t := IntWalk.i64_in _ (by omega)
  go_enter Try.func66, Try.ntmps66
  go_wp2
  all_goals (go_ret; refine ⟨?_, rfl⟩; show Ending.returned (Value.int .i64 _) = Ending.returned (Value.int .i64 _); congr 2; rename_i k; first | (rw [if_pos h] at k; omega) | (rw [if_neg (Int.not_lt.2 h)] at k; omega))

theorem total_any (g : Nat) (t l : Int) (w : World) (h : Mt w g t l) :
    Calls Try.prog 21 #[.pointer (some ⟨g, 0, none⟩)] w (R1 t w) := by
  have h0 := h.total
  go_enter Try.func21, Try.ntmps21
  go_wp2
  go_ret
  exact ⟨rfl, rfl⟩
theorem total_nil (w : World) :
    Calls Try.prog 21 #[.pointer none] w (R1 0 w) := by
  go_enter Try.func21, Try.ntmps21
  go_wp2
  go_ret
  exact ⟨rfl, rfl⟩
theorem charge_nil (n : Int) (w : World) :
    Calls Try.prog 39 #[.pointer none, .int .i64 n] w fun e w' => e = .returned (.tuple #[]) ∧ w = w' := by
  go_enter Try.func39, Try.ntmps39
  go_wp2
  first | go_end0 | refine bodyPost_ret (results_none rfl _ _ _) rfl ?_
  exact ⟨rfl, rfl⟩
theorem count_any (g : Nat) (t l n : Int) (w : World) (h : Mt w g t l) :
    Calls Try.prog 65 #[.pointer (some ⟨g, 0, none⟩), .int .i64 n, .func (.func 66) #[.pointer (some ⟨g, 0, none⟩)] #[]] w fun e w' => e = .returned (.tuple #[]) ∧ Mt w' g (more t n) l ∧ But (· = g) w w' := by
  have h0 := h.total
  have f0 := h.free0
  have l0 := h.l0
  have lt := h.lt
  have t1 := h.t1
  have hm := more_fit n (by omega : 0 ≤ t) t1
  have hw : IntKind.i64.wrap (t + max 0 (min n (4611686018427387904 - t))) = more t n := (IntWalk.i64_in _ (by rw [more_code n (by omega) t1]; omega)).trans (more_code n (by omega) t1)
  have HB := Lib.hid fun k => bound_any g t l n (w.drewN k) (h.drewN k)
  have HM := Lib.hid hm
  clear hm
  go_enter Try.func65, Try.ntmps65
  go_region_with (go_at_call 66; refine (HB.out 1).mono ?_; rintro e w' ⟨rfl, rfl⟩)
  all_goals
    go_end0
    exact ⟨rfl, (h.drewN 1).set0 (by have := HM.out; omega) HM.out.2, ((But.refl (· = g) w).drewN 1).setCell (p := ⟨g, 0, none⟩) (fun _ => rfl) _⟩
theorem charge_any (g : Nat) (t l n : Int) (w : World) (h : Mt w g t l) :
    Calls Try.prog 39 #[.pointer (some ⟨g, 0, none⟩), .int .i64 n] w fun e w' => e = .returned (.tuple #[]) ∧ Mt w' g (more t n) l ∧ But (· = g) w w' := by
  have hmf : ∀ (fn : Fn) (first cap : Array Value) (w : World), (Instr.makeFunc fn first cap).run Try.prog w = .ok (.func fn first cap) w := fun _ _ _ _ => rfl
  go_enter Try.func39, Try.ntmps39
  go_wp2_with fail
  refine (count_any g t l n w h).mono ?_
  rintro e w' ⟨rfl, hm, hb⟩
  go_wp2
  go_end0
  exact ⟨rfl, hm, hb⟩
end Go.Proofs.Ytfkegbipfekbdaa
/-
  Imports alone: what walks with append, cuts and held regions use.
-/
/-
  An append whose run is known, as a law for the walk. No statement about a Go function.
-/
namespace Go.Proofs.Ytfkegbipfekbdaa
open Go.ChangeShapes Go.WideShapes Go.ChangeAt Go.RowKit Go.Deep


/-- An append whose run is known, as a law for the walk. -/
theorem wpList_append_run {t : TypeId} {w w' : World} {ops : Array Oper} {rest : List Oper} {o : Oper} {a : Act} {Q : Exit → Act → World → Prop} {v v1 v2 : Value} (hgd : o.guard = none) (s x : Operand)
    (ho : o.op = .call { callee := .builtin .append, args := #[s, x], argTypes := #[t, t] }) (hty : o.type = t) (hs : a.eval s = v1) (hx : a.eval x = v2)
    (hrun : (Builtin.append_ #[t, t] t #[v1, v2]).run Try.prog w = .ok v w') (h : wpList Try.prog ops Q rest (a.put o.dst v) w') : wpList Try.prog ops Q (o :: rest) a w := by
  refine wpList_plain hgd fun K hK => ?_
  unfold Oper.wp
  simp [execOp, ho, resolve, invoke, builtin, hs, hx, hty, hrun, Result.andThen]
  exact hK _ _ h
/-- The same at a step of a region that draws its order. -/
theorem step_append_run {t : TypeId} {w w' : World} {ops : Array Oper} {o : Oper} {a : Act} {K : Act → World → Prop} {Q : Exit → Act → World → Prop} {E : Prop} {v v1 v2 : Value} (hgd : o.guard = none) (s x : Operand)
    (ho : o.op = .call { callee := .builtin .append, args := #[s, x], argTypes := #[t, t] }) (hty : o.type = t) (hs : a.eval s = v1) (hx : a.eval x = v2)
    (hrun : (Builtin.append_ #[t, t] t #[v1, v2]).run Try.prog w = .ok v w') (h : K (a.put o.dst v) w') : if Region.wanted o (yielded ops a.tmps) = true then Oper.wp Try.prog o a w K Q else E := by
  have hw : Region.wanted o (yielded ops a.tmps) = true := by simp [Region.wanted, hgd]
  rw [if_pos hw]
  unfold Oper.wp
  simp [execOp, ho, resolve, invoke, builtin, hs, hx, hty, hrun, Result.andThen]
  exact h
theorem newsOne {w : World} {g : Nat} {x : Value} (h : w.cell? ⟨g, 0, none⟩ = some x) : ∀ (j : Nat) (u : Value), [x][j]? = some u → w.cell? ((⟨g, 0, none⟩ : Addr).add j) = some u := by
  intro j u hu
  match j, hu with
  | 0, hu => simp at hu; subst hu; simpa [Addr.add] using h
end Go.Proofs.Ytfkegbipfekbdaa
/-
  More of slices of ints: cut at the front, kept behind a store, as what an append takes, and out of an own row. No statement about a Go function.
-/
namespace Go.Proofs.Ytfkegbipfekbdaa
open Go.ChangeShapes Go.WideShapes Go.ChangeAt Go.RowKit

theorem Ints.tail {w : World} {B n b o : Nat} {xs : List Int} (h : Ints w B (some ⟨b, o, none⟩) n xs) : Ints w B (some ⟨b, o + 1, none⟩) (n - 1) (xs.drop 1) := by
  have hl := h.len
  refine ⟨by simp [hl], by have := h.max; omega, fun x hx => h.2.2.1 x (List.mem_of_mem_drop hx), fun hn => ?_⟩
  obtain ⟨b', o', e, hb, hc⟩ := h.head (by omega)
  injection e with e
  injection e with e1 e2
  subst e1 e2
  refine ⟨b, o + 1, rfl, hb, fun k s hs => ?_⟩
  have := hc (1 + k) s (by rw [← List.getElem?_drop]; exact hs)
  rw [show o + 1 + k = o + (1 + k) by omega]; exact this
theorem Ints.last {w : World} {B n : Nat} {a : Option Addr} {xs : List Int} (h : Ints w B a n xs) (hn : n ≤ 1) (a' : Option Addr) : Ints w B a' (n - 1) (xs.drop 1) := by
  have hl := h.len
  exact ⟨by simp [hl], by have := h.max; omega, fun x hx => h.2.2.1 x (List.mem_of_mem_drop hx), fun hp => absurd hp (by omega)⟩
theorem Ints.setCell {w : World} {B n : Nat} {a : Option Addr} {xs : List Int} (h : Ints w B a n xs) {p : Addr} (hp : B ≤ p.block) (u : Value) : Ints (w.setCell p u) B a n xs :=
  h.keep fun q hq => World.cell?_setCell_other w p q u (fun e => by subst e; omega)
theorem newsOf {w : World} {B n b o : Nat} {xs : List Int} (h : Ints w B (some ⟨b, o, none⟩) n xs) : ∀ (j : Nat) (u : Value), (xs.map (Value.int .i64))[j]? = some u → w.cell? ((⟨b, o, none⟩ : Addr).add j) = some u := by
  intro j u hu
  rw [List.getElem?_map] at hu
  cases hx : xs[j]? with
  | none => rw [hx] at hu; simp at hu
  | some x =>
    rw [hx] at hu
    simp at hu
    subst hu
    have hj := (List.getElem?_eq_some_iff.1 hx).1
    obtain ⟨b', o', e, _, hc⟩ := h.head (by have := h.len; omega)
    injection e with e
    injection e with e1 e2
    subst e1 e2
    have := hc j x hx
    by_cases h0 : j = 0
    · subst h0; simpa [Addr.add] using this
    · simpa [Addr.add, h0] using this
theorem ints_of_own {w : World} {base g cap : Nat} {e : TypeId} {n : Nat} {ts : List Int} (h : w.ownsRow base e 1 (.slice (some ⟨g, 0, none⟩) n cap) n (ts.map (Value.int .i64))) (hn : 0 < n) (hm : n ≤ 9223372036854775807)
    (hf : ∀ x ∈ ts, -9223372036854775808 ≤ x ∧ x ≤ 9223372036854775807) : Ints w w.heap.size (some ⟨g, 0, none⟩) n ts := by
  obtain ⟨g', cap', hv, hb, hg⟩ := h.form hn
  injection hv with hv
  injection hv with hv
  injection hv with hv
  subst hv
  have hlen : ts.length = n := by have := h.1; simpa using this
  refine ⟨hlen, hm, hf, fun _ => ⟨g, 0, rfl, hg, fun k s hs => ?_⟩⟩
  obtain ⟨hk, _⟩ := List.getElem?_eq_some_iff.1 hs
  have := h.cellAt k (by omega)
  rw [List.getElem?_map, hs] at this
  simpa using this
end Go.Proofs.Ytfkegbipfekbdaa
/-
  Appends and cuts of slices of ints, as laws for the walk; ints kept by what turns other blocks. No statement about a Go function.
-/
namespace Go.Proofs.Ytfkegbipfekbdaa
open Go.ChangeShapes Go.WideShapes Go.ChangeAt Go.RowKit Go.Deep

theorem infoInt : (Try.prog.info? 3).map (fun i => (i.zero, i.size, i.bytes)) = some (some (.int .i64 0), 1, 8) := by kernel_rfl
theorem run_append_none (w : World) (b : Option Addr) (n cap : Nat) (c : Nat) (ty : TypeId) (h : n ≤ cap) :
    (Builtin.append_ #[22, 22] ty #[.slice b n cap, .slice none 0 c]).run Try.prog w = .ok (.slice b n cap) w := by
  obtain ⟨i0, hi, hz0, hz1, hz2⟩ := info_parts infoInt
  cases b <;> simp [Builtin.append_, run_underlying Try.underlying22, sizeOf, typeInfo, hi, Builtin.lenOf, h, run_firstCells_none, storeCells]

section
variable {w : World} {base g n cap m c : Nat} {xs ys : List Int} {al : Option Addr}
/-- A row of the call's own grows by the ints of another one. -/
theorem app_ints (hown : w.ownsRow base 3 1 (.slice (some ⟨g, 0, none⟩) n cap) n (xs.map (Value.int .i64))) (hy : Ints w w.heap.size al m ys) (hb : base ≤ w.heap.size) (hm : n + m ≤ 1000000) (ty : TypeId) :
    ∃ g' cap' w', (Builtin.append_ #[22, 22] ty #[.slice (some ⟨g, 0, none⟩) n cap, .slice al m c]).run Try.prog w = .ok (.slice (some ⟨g', 0, none⟩) (n + m) cap') w' ∧
      w'.ownsRow base 3 1 (.slice (some ⟨g', 0, none⟩) (n + m) cap') (n + m) ((xs ++ ys).map (Value.int .i64)) ∧ Below base w w' := by
  obtain ⟨i0, hi, hz0, hz1, hz2⟩ := info_parts infoInt
  have hg := hown.lt g rfl
  have hcap : n ≤ cap := by
    rcases hown.2 with ⟨e, _⟩ | ⟨g', cap', cur, hv, _, _, hc, _⟩
    · cases e
    · injection hv with _ _ e3
      omega
  by_cases h0 : al = none
  · subst h0
    have hm0 : m = 0 := by
      rcases Nat.eq_zero_or_pos m with e | e
      · exact e
      · obtain ⟨b, o, e, _⟩ := hy.head e
        cases e
    have hys : ys = [] := List.length_eq_zero_iff.1 (by rw [hy.len]; exact hm0)
    subst hm0 hys
    refine ⟨g, cap, w, run_append_none w _ n cap c ty hcap, ?_, Below.refl _ _⟩
    rw [List.append_nil, Nat.add_zero]
    exact hown
  · obtain ⟨ad, rfl⟩ : ∃ ad, al = some ad := by
      cases al with
      | none => exact absurd rfl h0
      | some ad => exact ⟨ad, rfl⟩
    obtain ⟨v', w', hr, h2, h3, _, h5⟩ := run_append_own_at (P := Try.prog) w base 22 ty 3 i0 (.int .i64 0) 1 8 Try.underlying22 hi hz0 hz1 hz2 rfl Nat.one_pos (.slice (some ⟨g, 0, none⟩) n cap) n (xs.map (Value.int .i64)) hown ad m c (ys.map (Value.int .i64)) (by simp [hy.len])
      (fun j u hu => by
        have hj : j < ys.length := by have := (List.getElem?_eq_some_iff.1 hu).1; simpa using this
        obtain ⟨b, o, e, _, _⟩ := hy.head (by have := hy.len; omega)
        cases e
        exact newsOf hy j u hu)
      (fun u hu => by obtain ⟨x, _, rfl⟩ := List.mem_map.1 hu; rfl) (by unfold maxLen; omega) (by omega) hb
    rw [← List.map_append] at h2
    have hv : ∃ g' cap', v' = .slice (some ⟨g', 0, none⟩) (n + m) cap' := by
      rcases h2.2 with ⟨e, _⟩ | ⟨g', cap', _, hv, _⟩
      · subst e
        rcases h5 with h5 | h5 <;> simp [Value.ownBlock] at h5
      · exact ⟨g', cap', hv⟩
    obtain ⟨g', cap', rfl⟩ := hv
    exact ⟨g', cap', w', hr, h2, Below.grown (Below.refl _ _) h3 hb (fun k hk => by simp [Value.ownBlock] at hk; omega)⟩
end

/-- A row of the call's own, as ints. -/
theorem ints_own {w : World} {base g n cap : Nat} {xs : List Int} (h : w.ownsRow base 3 1 (.slice (some ⟨g, 0, none⟩) n cap) n (xs.map (Value.int .i64))) (hm : n ≤ 1000000) (hf : ∀ x ∈ xs, -9223372036854775808 ≤ x ∧ x ≤ 9223372036854775807) : Ints w w.heap.size (some ⟨g, 0, none⟩) n xs ∧ n ≤ cap := by
  constructor
  · rcases Nat.eq_zero_or_pos n with e | e
    · have hl : xs.length = n := by have := h.1; simpa using this
      exact ⟨hl, by omega, hf, fun q => absurd q (by omega)⟩
    · exact ints_of_own h e (by omega) hf
  · rcases h.2 with ⟨e, _⟩ | ⟨g', cap', cur, hv, _, _, hc, _⟩
    · cases e
    · injection hv with _ _ e3
      omega

/-! ### Cuts -/
section
variable {w : World} {B n : Nat} {a : Option Addr} {xs : List Int}
theorem Ints.take (h : Ints w B a n xs) {k : Nat} (hk : k ≤ n) : Ints w B a k (xs.take k) := by
  have hl := h.len
  refine ⟨by rw [List.length_take]; omega, by have := h.max; omega, fun x hx => h.2.2.1 x (List.mem_of_mem_take hx), fun hn => ?_⟩
  obtain ⟨b, o, e, hb, hc⟩ := h.head (by omega)
  refine ⟨b, o, e, hb, fun j s hs => ?_⟩
  rw [List.getElem?_take] at hs
  split at hs
  · exact hc j s hs
  · cases hs
end
/-- 'l[:k]' is run so. -/
theorem cut_to {b o n c k : Nat} (hk : k ≤ n) (hnc : n ≤ c) (v : World) :
    (Instr.sliceAt 22 (.slice (some ⟨b, o, none⟩) n c) none (some (.int .i64 (k : Int))) none).run Try.prog v = .ok (.slice (some ⟨b, o, none⟩) k c) v := by
  have hu : Try.prog.underlying 22 = some (.slice (Try.prog.elem 22)) := by kernel_rfl
  have hs : ∀ v, (sizeOf (Try.prog.elem 22)).run Try.prog v = .ok 1 v := fun v => by kernel_rfl
  rw [run_sliceAt_slice _ _ _ _ _ _ hu, run_slice_h _ _ _ _ _ hu _ _ (by omega) (by omega), hs]
  simp [Result.andThen, sliced, Addr.add]
/-- 'l[k:]' is run so. -/
theorem cut_tail {w : World} {B b o n c : Nat} {xs : List Int} (h : Ints w B (some ⟨b, o, none⟩) n xs) {k : Nat} (hk : k ≤ n) (hnc : n ≤ c) :
    ∃ (o' c' : Nat), n - k ≤ c' ∧ (∀ v, (Instr.sliceAt 22 (.slice (some ⟨b, o, none⟩) n c) (some (.int .i64 (k : Int))) none none).run Try.prog v = .ok (.slice (some ⟨b, o', none⟩) (n - k) c') v) ∧ Ints w B (some ⟨b, o', none⟩) (n - k) (xs.drop k) := by
  have hu : Try.prog.underlying 22 = some (.slice (Try.prog.elem 22)) := by kernel_rfl
  have hs : ∀ v, (sizeOf (Try.prog.elem 22)).run Try.prog v = .ok 1 v := fun v => by kernel_rfl
  have run : ∀ v, (Instr.sliceAt 22 (.slice (some ⟨b, o, none⟩) n c) (some (.int .i64 (k : Int))) none none).run Try.prog v = .ok (sliced (some ⟨b, o, none⟩) k n c 1) v := by
    intro v
    rw [run_sliceAt_slice _ _ _ _ _ _ hu, run_slice_l _ _ _ _ _ hu _ _ (by omega) (by omega), hs]
    simp [Result.andThen]
  have hl := h.len
  by_cases hc : c = k
  · exact ⟨o, c - k, by omega, fun v => (run v).trans (by simp [sliced, hc]), ⟨by rw [List.length_drop]; omega, by have := h.max; omega, fun x hx => h.2.2.1 x (List.mem_of_mem_drop hx), fun q => absurd q (by omega)⟩⟩
  · refine ⟨o + k, c - k, by omega, fun v => (run v).trans ?_, ⟨by rw [List.length_drop]; omega, by have := h.max; omega, fun x hx => h.2.2.1 x (List.mem_of_mem_drop hx), fun q => ?_⟩⟩
    · by_cases h0 : k = 0
      · subst h0; simp [sliced, Addr.add]
      · simp [sliced, hc, Addr.add, h0]
    · obtain ⟨b', o', e, hb, hcell⟩ := h.head (by omega)
      injection e with e
      injection e with e1 e2
      subst e1 e2
      refine ⟨b, o + k, rfl, hb, fun j s hs => ?_⟩
      rw [List.getElem?_drop] at hs
      rw [Nat.add_assoc]
      exact hcell (k + j) s hs

theorem cut_from {w : World} {B b o n c : Nat} {xs : List Int} (h : Ints w B (some ⟨b, o, none⟩) n xs) {k : Nat} (hk : k ≤ n) (hnc : n ≤ c) :
    ∃ (a' : Option Addr) (c' : Nat), n - k ≤ c' ∧ (∀ v, (Instr.sliceAt 22 (.slice (some ⟨b, o, none⟩) n c) (some (.int .i64 (k : Int))) none none).run Try.prog v = .ok (.slice a' (n - k) c') v) ∧ Ints w B a' (n - k) (xs.drop k) := by
  obtain ⟨o', c', h1, h2, h3⟩ := cut_tail h hk hnc
  exact ⟨_, c', h1, h2, h3⟩

/-! ### Ints kept by what turns other blocks -/
section
variable {w w' : World} {S : Nat → Prop} {a : Option Addr} {n : Nat}
theorem Ints.butAt {B b o : Nat} {xs : List Int} (h : Ints w B (some ⟨b, o, none⟩) n xs) (hb : But S w w') (hB : B ≤ w.heap.size) (hn : ¬ S b) : Ints w' B (some ⟨b, o, none⟩) n xs :=
  ⟨h.1, h.2.1, h.2.2.1, fun h0 => by
    obtain ⟨b', o', e, hl, hc⟩ := h.2.2.2 h0
    injection e with e
    injection e with e1 e2
    subst e1 e2
    exact ⟨b, o, rfl, hl, fun k s hs => (hb.cell (p := ⟨b, o + k, none⟩) (by show b < _; omega) hn).trans (hc k s hs)⟩⟩
theorem Ints.far {B : Nat} {xs : List Int} (h : Ints w B a n xs) (hb : But S w w') (hB : B ≤ w.heap.size) (hn : 0 < n → ∃ f o, a = some ⟨f, o, none⟩ ∧ ¬ S f) : Ints w' B a n xs := by
  by_cases h0 : 0 < n
  · obtain ⟨f, o, rfl, hf⟩ := hn h0
    exact h.butAt hb hB hf
  · exact ⟨h.1, h.2.1, h.2.2.1, fun q => absurd q h0⟩
end

/-! ### One more int behind a row of the call's own -/
theorem app_one {w : World} {base : Nat} {v : Value} {k : Nat} {xs : List Int} (hown : w.ownsRow base 3 1 v k (xs.map (Value.int .i64))) (hb : base ≤ w.heap.size) (hm : k ≤ 1000000) (y : Int) (ty : TypeId) :
    ∃ g cap w', (Builtin.append_ #[22, 22] ty #[v, .slice (some ⟨w.heap.size, 0, none⟩) 1 1]).run Try.prog (w.alloc (.cells #[.int .i64 y] 3)) = .ok (.slice (some ⟨g, 0, none⟩) (k + 1) cap) w' ∧
      w'.ownsRow base 3 1 (.slice (some ⟨g, 0, none⟩) (k + 1) cap) (k + 1) ((xs ++ [y]).map (Value.int .i64)) ∧ (w.alloc (.cells #[.int .i64 y] 3)).grownBy w' v.ownBlock ∧ (v.ownBlock = some g ∨ g = w.heap.size + 1) := by
  obtain ⟨i0, hi, hz0, hz1, hz2⟩ := info_parts infoInt
  obtain ⟨v', w', hr, h2, h3, _, h5⟩ := run_append_own_at (P := Try.prog) (w.alloc (.cells #[.int .i64 y] 3)) base 22 ty 3 i0 (.int .i64 0) 1 8 Try.underlying22 hi hz0 hz1 hz2 rfl Nat.one_pos v k (xs.map (Value.int .i64)) (hown.alloc _) ⟨w.heap.size, 0, none⟩ 1 1 [.int .i64 y] rfl
    (newsOne (by simp)) (fun u hu => by rw [List.mem_singleton.1 hu]; rfl) (by unfold maxLen; omega) (by omega) (by simp; omega)
  obtain ⟨g, cap, rfl, hg, _⟩ := h2.form (by omega)
  refine ⟨g, cap, w', hr, by rw [List.map_append]; exact h2, h3, ?_⟩
  rcases h5 with h5 | h5
  · exact Or.inl h5.symm
  · simp [Value.ownBlock] at h5
    exact Or.inr h5
end Go.Proofs.Ytfkegbipfekbdaa
