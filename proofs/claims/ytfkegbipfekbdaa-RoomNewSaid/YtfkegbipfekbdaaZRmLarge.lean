import Derived.Test.YtfkegbipfekbdaaZPlGive
import Derived.Test.YtfkegbipfekbdaaZIntsApp
import Derived.OwnWalk
import Derived.Lib.Hide
import Derived.Test.YtfkegbipfekbdaaZClassNum
import Derived.Test.YtfkegbipfekbdaaZPgBits
import Derived.Laws.OwnMore
import Derived.Test.YtfkegbipfekbdaaZRmGoLay
/-
  Package pool (beside others): its closures' blocks all lie below G ('Clo'); Take keeps that, and the pool is kept by what turns blocks from G on.
-/
namespace Go.Proofs.Ytfkegbipfekbdaa.Pl
open Go.ChangeShapes Go.WideShapes Go.ChangeAt Go.RowKit
set_option maxRecDepth 100000

/-- The closures that free pages hold lie in blocks below G. -/
def Clo (w : World) (a G : Nat) (fl : List Int) : Prop := ∀ x ∈ fl, ∀ b, w.cell? ⟨a, x.toNat * 2 + 1, none⟩ = some (.func (.func 93) #[] #[.pointer (some ⟨b, 0, none⟩)]) → b < G
section
variable {w w' : World} {p a K G : Nat} {O fl r : List Int} {S : Nat → Prop}
theorem Thr.clo (h : Thr w p a K fl) : Clo w a w.heap.size fl := by
  induction fl with
  | nil => intro x hx; simp at hx
  | cons y r ih =>
    obtain ⟨⟨t, h1, h2⟩, h3⟩ := h
    intro x hx b hb
    rcases List.mem_cons.1 hx with rfl | q
    · rw [h1] at hb
      have e := Option.some.inj hb
      rcases h2 with z | ⟨b', z, hc, _⟩
      · rw [z] at e
        simp at e
      · rw [z] at e
        simp at e
        rw [← e]
        exact lt_of_cell (p := ⟨b', 0, none⟩) hc
    · exact ih h3 x q b hb
theorem Clo.cells (h : Clo w a G fl) (hc : ∀ x ∈ r, w'.cell? ⟨a, x.toNat * 2 + 1, none⟩ = w.cell? ⟨a, x.toNat * 2 + 1, none⟩) (hr : ∀ x ∈ r, x ∈ fl) : Clo w' a G r := fun x hx b hb => h x (hr x hx) b (by rw [← hc x hx]; exact hb)
theorem Clo.but (h : Clo w a G fl) (hb : But S w w') (ha : ¬ S a) (hl : a < w.heap.size) : Clo w' a G fl := h.cells (fun x _ => hb.cell (p := ⟨a, x.toNat * 2 + 1, none⟩) hl ha) (fun _ q => q)
/-- Kept by what turns blocks from G on. -/
theorem Pm.past (h : Pm w p a K O fl) (hc : Clo w a G fl) (hb : But S w w') (hp : ¬ S p) (hA : ¬ S a) (hS : ∀ i, S i → G ≤ i) : Pm w' p a K O fl :=
  have hps := h.psize
  have has := h.asize
  ⟨h.wf, (hb.cell (p := ⟨p, 0, none⟩) hps hp).trans h.c0, (hb.cell (p := ⟨p, 1, none⟩) hps hp).trans h.c1, (hb.cell (p := ⟨p, 2, none⟩) hps hp).trans h.c2,
    (hb.frozen (p := ⟨p, 1, none⟩) hps hp).trans h.f1, (hb.frozen (p := ⟨p, 2, none⟩) hps hp).trans h.f2,
    fun k x hk => (hb.cell (p := ⟨a, k * 2, none⟩) has hA).trans (h.co k x hk), fun k hk => by
      obtain ⟨t, ht⟩ := h.ct k hk
      exact ⟨t, (hb.cell (p := ⟨a, k * 2 + 1, none⟩) has hA).trans ht⟩,
    fun q hq => (hb.frozen (p := ⟨a, q, none⟩) has hA).trans (h.fo q hq),
    by
      have := h.th
      clear h
      induction fl with
      | nil => trivial
      | cons x r ih =>
        obtain ⟨⟨t, h1, h2⟩, h3⟩ := this
        refine ⟨⟨t, (hb.cell (p := ⟨a, x.toNat * 2 + 1, none⟩) has hA).trans h1, ?_⟩, ih (fun y hy => hc y (by simp [hy])) h3⟩
        rcases h2 with h2 | ⟨b, e, c, d, n1, n2⟩
        · exact Or.inl h2
        · have hlt : b < w.heap.size := lt_of_cell (p := ⟨b, 0, none⟩) c
          have hbG : b < G := hc x (by simp) b (by rw [h1, e])
          have nS : ¬ S b := fun q => by have := hS b q; omega
          exact Or.inr ⟨b, e, (hb.cell (p := ⟨b, 0, none⟩) hlt nS).trans c, (hb.cell (p := ⟨b, 1, none⟩) hlt nS).trans d, n1, n2⟩,
    h.pa, h.k1, h.k2⟩
theorem take_far {k : Nat} (h : Pm w p a K O ((k : Int) :: r)) (o : Int) (h0 : 0 ≤ o) (ho : Fit o) :
    Calls Try.prog 85 #[.pointer (some ⟨p, 0, none⟩), .int .i64 o] w (fun e w' => TakeEnds p a K (O.set k o, r, k, 0) w e w' ∧ ∀ x ∈ r, w'.cell? ⟨a, x.toNat * 2 + 1, none⟩ = w.cell? ⟨a, x.toNat * 2 + 1, none⟩) := by
  have H := Lib.hid (h.took h0 ho)
  have c0 := h.c0
  have c1 : w.cell? ⟨p, 1, none⟩ = some (.int .i64 (k : Int)) := h.c1
  have c2 := h.c2
  have f1 := h.f1
  have f2 := h.f2
  obtain ⟨k', e, hk⟩ := h.wf.lt (x := (k : Int)) (by simp)
  obtain rfl : k' = k := by omega
  have k2 := h.k2
  have g0 := h.fo (k' * 2) (by omega)
  have g1 := h.fo (k' * 2 + 1) (by omega)
  have hpa := h.pa
  have hap : ¬ a = p := fun q => hpa q.symm
  obtain ⟨hnod, _⟩ := List.nodup_cons.1 h.wf.once
  have hlt := fun x (hx : x ∈ r) => h.wf.lt (x := x) (by simp [hx])
  have HG : Hid (∀ (u v : Value) (z1 z2 : Value) (x : Int), x ∈ r → ((((w.setCell ⟨p, 1, none⟩ u).setCell ⟨a, k' * 2, none⟩ v).setCell ⟨a, k' * 2 + 1, none⟩ z1).setCell ⟨p, 2, none⟩ z2).cell? ⟨a, x.toNat * 2 + 1, none⟩ = w.cell? ⟨a, x.toNat * 2 + 1, none⟩) := Lib.hid fun u v z1 z2 x hx => by
    obtain ⟨j, ej, _⟩ := hlt x hx
    have hne : j ≠ k' := fun q => hnod (by rw [← q, ← ej]; exact hx)
    subst ej
    rw [Int.toNat_natCast]
    rw [World.cell?_setCell_other _ _ _ _ (by simp <;> omega), World.cell?_setCell_other _ _ _ _ (by simp <;> omega), World.cell?_setCell_other _ _ _ _ (by simp <;> omega), World.cell?_setCell_other _ _ _ _ (by simp <;> omega)]
  clear hnod hlt
  obtain ⟨x0, hx0, _⟩ := h.wf.ofK hk
  have c3 := h.co k' x0 hx0
  obtain ⟨⟨t, c4, ht⟩, _⟩ := h.th
  rw [Int.toNat_natCast] at c4
  have hhd := (h.wf.take h0 ho).head
  have hfew := h.wf.few
  obtain ⟨n, hn⟩ : ∃ n, n = r.length := ⟨_, rfl⟩
  rw [List.length_cons, ← hn] at c2 hfew
  rw [← hn] at H
  generalize hd K r = v at H ht hhd
  have hst : ∀ (q : Addr) (m : Mode) (u : World), (store q .nilFunc m).run Try.prog u = stored Try.prog u q .nilFunc m := fun q m u => run_store Try.prog u q _ m rfl
  clear hn
  have d1 : decide (o < 0) = false := by simpa using h0
  have e1 : (((n + 1 : Nat) : Int) == 0) = false := beq_eq_false_iff_ne.2 (by omega)
  have hw : IntKind.i64.wrap (((n + 1 : Nat) : Int) - 1) = (n : Int) := by rw [show ((n + 1 : Nat) : Int) - 1 = (n : Int) by omega]; exact IntWalk.i64_in _ (by omega)
  have HB : Hid (But (Own p a) w ((((w.setCell ⟨p, 1, none⟩ (.int .i64 v)).setCell ⟨a, k' * 2, none⟩ (.int .i64 o)).setCell ⟨a, k' * 2 + 1, none⟩ .nilFunc).setCell ⟨p, 2, none⟩ (.int .i64 (n : Int)))) :=
    Lib.hid (((((But.refl _ w).setCell (p := ⟨p, 1, none⟩) (fun _ => Or.inl rfl) _).setCell (p := ⟨a, k' * 2, none⟩) (fun _ => Or.inr rfl) _).setCell (p := ⟨a, k' * 2 + 1, none⟩) (fun _ => Or.inr rfl) _).setCell (p := ⟨p, 2, none⟩) (fun _ => Or.inl rfl) _)
  rcases ht with rfl | ⟨b, rfl, hb, _, _, _⟩
  · have HC := Lib.hid (above_any v (by omega) w)
    clear h
    go_enter Try.func85, Try.ntmps85
    go_wp2_with fail
    refine HC.out.mono ?_
    rintro e w' ⟨rfl, rfl⟩
    go_wp2
    go_ret2
    exact ⟨⟨rfl, H.out, HB.out⟩, HG.out _ _ _ _⟩
  · have HC := Lib.hid (behind_any b v w hb)
    clear h
    go_enter Try.func85, Try.ntmps85
    go_wp2_with fail
    refine HC.out.mono ?_
    rintro e w' ⟨rfl, rfl⟩
    go_wp2
    go_ret2
    exact ⟨⟨rfl, H.out, HB.out⟩, HG.out _ _ _ _⟩
end
end Go.Proofs.Ytfkegbipfekbdaa.Pl
/-
  slices.Clone of ints: the same numbers in new memory that may be written.
-/
namespace Go.Proofs.Ytfkegbipfekbdaa
open Go.ChangeShapes Go.WideShapes Go.ChangeAt Go.RowKit Go.Deep

/-- A slice of ints of the call's own, from block B on, that may be written. -/
def Own1 (w : World) (B : Nat) (a : Option Addr) (n c : Nat) : Prop := n ≤ c ∧ (0 < n → ∃ g o, a = some ⟨g, o, none⟩ ∧ B ≤ g ∧ ∀ k, w.frozen? ⟨g, k, none⟩ = false)
/-- How a call ends that tells new ints. -/
def Tells (n : Nat) (xs : List Int) (w : World) (e : Ending) (w' : World) : Prop :=
  ∃ a c, e = .returned (.slice a n c) ∧ Ints w' w'.heap.size a n xs ∧ Own1 w' w.heap.size a n c ∧ Below w.heap.size w w'

theorem clone_any (a : Option Addr) (n c : Nat) (xs : List Int) (w : World) (h : Ints w w.heap.size a n xs) (hn : n ≤ 1024) :
    Calls Try.prog 26 #[.slice a n c] w (Tells n xs w) := by
  cases a with
  | none =>
    have hn0 : n = 0 := by
      rcases Nat.eq_zero_or_pos n with e | e
      · exact e
      · obtain ⟨b, o, e, _⟩ := h.head e
        cases e
    subst hn0
    have he : ∀ v, (binOp .eql 22 (.slice none 0 c) (.slice none 0 0)).run Try.prog v = .ok (.bool true) v := fun v => by kernel_rfl
    have HI := Lib.hid h
    clear h
    go_enter Try.func26, Try.ntmps26
    go_wp2
    go_ret
    exact ⟨none, 0, rfl, HI.out, ⟨by omega, fun q => absurd q (by omega)⟩, Below.refl _ _⟩
  | some ad =>
    have he : ∀ v, (binOp .eql 22 (.slice (some ad) n c) (.slice none 0 0)).run Try.prog v = .ok (.bool false) v := fun v => by kernel_rfl
    have own0 : (w.alloc (.cells #[] 3)).ownsRow w.heap.size 3 1 (.slice (some ⟨w.heap.size, 0, none⟩) 0 0) 0 (([] : List Int).map (Value.int .i64)) := World.ownsRow_lit w #[] 0 (Nat.le_refl _) (by unfold maxLen; omega) rfl
    obtain ⟨g, cap, w5, hrun, hown, b5⟩ := app_ints (c := c) own0 (h.on (below1 w (.cells #[] 3))) (by simp) (by omega) 22
    rw [Nat.zero_add, List.nil_append] at hown
    rw [Nat.zero_add] at hrun
    obtain ⟨J5, hcap⟩ := ints_own hown (by omega) h.2.2.1
    have HE : Hid (Tells n xs w (.returned (.slice (some ⟨g, 0, none⟩) n cap)) w5) := Lib.hid ⟨some ⟨g, 0, none⟩, cap, rfl, J5, ⟨hcap, fun _ => ⟨g, 0, rfl, (hown.lt g rfl).1, fun k => hown.frozenAt k⟩⟩, (below1 w _).trans b5⟩
    have R := Lib.hid hrun
    have hm := h.max
    clear J5 hown own0 b5 hrun h
    go_enter Try.func26, Try.ntmps26
    go_wp2_with (at_builtin; refine wpList_append_run rfl _ _ rfl rfl rfl rfl R.out ?_)
    go_ret
    exact HE.out
end Go.Proofs.Ytfkegbipfekbdaa
/-
  make([]int, n), and a store into such a block: it reads as a list of ints. No statement about a Go function.
-/
namespace Go.Proofs.Ytfkegbipfekbdaa
open Go.ChangeShapes Go.WideShapes Go.ChangeAt Go.RowKit
set_option maxRecDepth 100000

/-- A block of n ints that are 0. -/
def noInts (n : Nat) : Obj := .cells (madeCells #[.int .i64 0] n) 3
theorem make_ints (n : Nat) (hn : n ≤ 1048576) (v : World) :
    (Instr.makeSlice 22 (.int .i64 (n : Int)) (.int .i64 (n : Int))).run Try.prog v = .ok (.slice (some ⟨v.heap.size, 0, none⟩) n n) (v.alloc (noInts n)) := by
  obtain ⟨i, hi, hz, hs, hb⟩ : ∃ i, Try.prog.info? 3 = some i ∧ i.zero = some (.int .i64 0) ∧ i.size = 1 ∧ i.bytes = 8 := ⟨_, rfl, by kernel_rfl, by kernel_rfl, by kernel_rfl⟩
  rw [run_make v 22 3 i _ Try.underlying22 hi hz .i64 .i64 n n (by omega) (by omega) (by rw [hb]; omega) (by omega)]
  simp [hs, noInts, Value.cells]

/-- Block g holds the ints X, from its beginning on, and may be written. -/
structure IRow (w : World) (g : Nat) (X : List Int) : Prop where
  cell : ∀ (k : Nat) (s : Int), X[k]? = some s → w.cell? ⟨g, k, none⟩ = some (.int .i64 s)
  free : ∀ k, k < X.length → w.frozen? ⟨g, k, none⟩ = false
  fit : ∀ x ∈ X, -9223372036854775808 ≤ x ∧ x ≤ 9223372036854775807
  few : X.length ≤ 1048576
  lt : g < w.heap.size
section
variable {w w' : World} {g : Nat} {X : List Int} {S : Nat → Prop}
theorem IRow.new (w : World) (n : Nat) (hn : n ≤ 1048576) : IRow (w.alloc (noInts n)) w.heap.size (List.replicate n 0) := by
  have hh : (w.alloc (noInts n)).heap[w.heap.size]? = some (noInts n) := by simp only [World.alloc, Array.getElem?_push, if_true]
  refine ⟨fun k s hs => ?_, fun k hk => ?_, fun x hx => by rw [List.eq_of_mem_replicate hx]; omega, by rw [List.length_replicate]; exact hn, by simp⟩
  · obtain ⟨hk, e⟩ := List.getElem?_eq_some_iff.1 hs
    rw [List.length_replicate] at hk
    rw [List.getElem_replicate] at e
    subst e
    rw [World.cell?, hh]
    simp [noInts, madeCells, hk, Nat.mod_one]
  · rw [World.frozen?, hh]
    simp [noInts]
theorem IRow.but (h : IRow w g X) (hb : But S w w') (hn : ¬ S g) : IRow w' g X :=
  ⟨fun k s hs => (hb.cell (p := ⟨g, k, none⟩) h.lt hn).trans (h.cell k s hs), fun k hk => (hb.frozen (p := ⟨g, k, none⟩) h.lt hn).trans (h.free k hk), h.fit, h.few, Nat.lt_of_lt_of_le h.lt hb.size⟩
theorem IRow.on (h : IRow w g X) (hb : Below w.heap.size w w') : IRow w' g X := h.but (Below.but hb fun _ => False) id
theorem IRow.drewN (h : IRow w g X) (k : Nat) : IRow (w.drewN k) g X := h.but ((But.refl (fun _ => False) w).drewN k) id
theorem IRow.set (h : IRow w g X) {k : Nat} {v : Int} (hk : k < X.length) (hv : -9223372036854775808 ≤ v ∧ v ≤ 9223372036854775807) : IRow (w.setCell ⟨g, k, none⟩ (.int .i64 v)) g (X.set k v) := by
  refine ⟨fun j s hs => ?_, fun j hj => ?_, fun x hx => ?_, by rw [List.length_set]; exact h.few, by simpa using h.lt⟩
  · by_cases z : k = j
    · subst z
      rw [List.getElem?_set_self (by omega)] at hs
      cases hs
      exact World.cell?_setCell_same w ⟨g, k, none⟩ _ (h.cell k _ (List.getElem?_eq_getElem hk))
    · rw [List.getElem?_set_ne z] at hs
      exact (World.cell?_setCell_other w ⟨g, k, none⟩ ⟨g, j, none⟩ _ (by simp <;> omega)).trans (h.cell j s hs)
  · rw [List.length_set] at hj
    simpa using h.free j hj
  · rcases List.mem_or_eq_of_mem_set hx with q | q
    · exact h.fit x q
    · subst q; exact hv
theorem IRow.ints (h : IRow w g X) : Ints w w.heap.size (some ⟨g, 0, none⟩) X.length X :=
  ⟨rfl, by have := h.few; omega, h.fit, fun _ => ⟨g, 0, rfl, h.lt, fun k s hs => by rw [Nat.zero_add]; exact h.cell k s hs⟩⟩
end
end Go.Proofs.Ytfkegbipfekbdaa
/-
  Package room: takePage, placeLarge: a large thing that fits.
-/
namespace Go.Proofs.Ytfkegbipfekbdaa.Room
open Go.ChangeShapes Go.WideShapes Go.ChangeAt Go.RowKit
open Sh (Shl Ps Sw Uw Sr Sm Fx Adr Lab Nxt Far nums usedS mem_nums)
set_option maxRecDepth 100000

section
variable {w w' : World} {y : Gx} {x : Nat → Fx} {A : Nat → Adr} {lab : Nat → Lab} {V : Int → Value} {Q : Nat → Prop} {r : Rom} {m : Nat} {l : Int} {O fl : List Int} {G k : Nat}
/-- The cells that takePage loads. -/
def Two (w : World) (y : Gx) : Prop := w.cell? ⟨y.g, 1, none⟩ = some (.pointer (some ⟨y.pp, 0, none⟩)) ∧ w.cell? ⟨y.g, 2, none⟩ = some (.slice (some ⟨y.sb, 0, none⟩) y.c.cn y.c.cn)
theorem Two.but {S : Nat → Prop} (h : Two w y) (hb : But S w w') (hn : ¬ S y.g) : Two w' y :=
  have hl : y.g < w.heap.size := lt_of_cell (p := ⟨y.g, 1, none⟩) h.1
  ⟨(hb.cell (p := ⟨y.g, 1, none⟩) hl hn).trans h.1, (hb.cell (p := ⟨y.g, 2, none⟩) hl hn).trans h.2⟩
set_option maxHeartbeats 1000000 in
theorem gpage_any (kc : Two w y) (hg : ¬ Pl.Own y.pp y.pa y.g) (h : Pl.Pm w y.pp y.pa y.K O ((k : Int) :: fl)) (hc : Pl.Clo w y.pa G ((k : Int) :: fl)) (hn : y.c.cn ≤ 16) :
    Calls Try.prog 59 #[.pointer (some ⟨y.g, 0, none⟩)] w fun e w' => e = .returned (.int .i64 (k : Int)) ∧ Pl.Pm w' y.pp y.pa y.K (O.set k (y.c.cn : Int)) fl ∧ Pl.Clo w' y.pa G fl ∧ But (Pl.Own y.pp y.pa) w w' := by
  have kW : w.cell? ⟨y.g, 1, none⟩ = some (.pointer (some ⟨y.pp, 0, none⟩)) ∧ w.cell? ⟨y.g, 2, none⟩ = some (.slice (some ⟨y.sb, 0, none⟩) y.c.cn y.c.cn) := kc
  have kD : w.drew.cell? ⟨y.g, 1, none⟩ = some (.pointer (some ⟨y.pp, 0, none⟩)) ∧ w.drew.cell? ⟨y.g, 2, none⟩ = some (.slice (some ⟨y.sb, 0, none⟩) y.c.cn y.c.cn) := kc.but (But.refl (fun _ => False) w).drew id
  have BD : But (fun _ => False) w w.drew := (But.refl _ w).drew
  have HC : Hid (∀ v, But (fun _ => False) w v → Calls Try.prog 85 #[.pointer (some ⟨y.pp, 0, none⟩), .int .i64 (y.c.cn : Int)] v (fun e w' => Pl.TakeEnds y.pp y.pa y.K (O.set k (y.c.cn : Int), fl, (k : Int), 0) v e w' ∧ ∀ x ∈ fl, w'.cell? ⟨y.pa, x.toNat * 2 + 1, none⟩ = v.cell? ⟨y.pa, x.toNat * 2 + 1, none⟩)) := Lib.hid fun v hv =>
    Pl.take_far (h.but hv id id (fun _ q => q.elim)) (y.c.cn : Int) (by omega) (fit16 hn)
  have HN : Hid (∀ v w', But (fun _ => False) w v → But (Pl.Own y.pp y.pa) v w' → (∀ x ∈ fl, w'.cell? ⟨y.pa, x.toNat * 2 + 1, none⟩ = v.cell? ⟨y.pa, x.toNat * 2 + 1, none⟩) → (w'.cell? ⟨y.g, 1, none⟩ = some (.pointer (some ⟨y.pp, 0, none⟩)) ∧ w'.cell? ⟨y.g, 2, none⟩ = some (.slice (some ⟨y.sb, 0, none⟩) y.c.cn y.c.cn)) ∧ Pl.Clo w' y.pa G fl ∧ But (Pl.Own y.pp y.pa) w w') := Lib.hid fun v w' hv hb hx => by
    have c1 := hc.but hv id h.asize
    exact ⟨(kc.but hv id).but hb hg, c1.cells hx (fun z hz => by simp [hz]), (hv.mono fun _ _ q => q.elim).trans hb⟩
  clear h hc hg hn kc
  go_enter Try.func59, Try.ntmps59
  go_wp2_with fail
  go_region_held3 (fun w' => w'.cell? ⟨y.g, 1, none⟩ = some (.pointer (some ⟨y.pp, 0, none⟩)) ∧ w'.cell? ⟨y.g, 2, none⟩ = some (.slice (some ⟨y.sb, 0, none⟩) y.c.cn y.c.cn))
    (first | with_reducible exact kD | with_reducible exact k4 | with_reducible exact kW | go_keep)
    ((go_at_call 85; refine (HC.out _ ?_).mono ?_; exact BD; rintro e w4 ⟨⟨rfl, r4, b4⟩, x4⟩; have k4 := (HN.out _ _ BD b4 x4).1))
  have HZ := Lib.hid (And.intro r4 (HN.out _ _ BD b4 x4).2)
  clear r4 b4 k4 kW kD BD x4
  go_wp2
  go_ret
  exact ⟨rfl, HZ.out.1, HZ.out.2.1, HZ.out.2.2⟩

/-! ### A large thing -/
/-- How many pages are laid so far: j behind the first one. -/
def rowJ (rest : List Int) (q j : Nat) : List Int := rest.take j ++ List.replicate (q - j) 0
theorem drop_here {l : List Int} {j : Nat} {v : Int} (h : l[j]? = some v) : l.drop j = v :: l.drop (j + 1) := by
  obtain ⟨hj, e⟩ := List.getElem?_eq_some_iff.1 h
  rw [List.drop_eq_getElem_cons hj, e]
theorem rowJ_len {rest : List Int} {q j : Nat} (hj : j ≤ q) (hq : q ≤ rest.length) : (rowJ rest q j).length = q := by
  unfold rowJ
  rw [List.length_append, List.length_take, List.length_replicate]
  omega
theorem rowJ_set {rest : List Int} {q j : Nat} {v : Int} (hj : j < q) (hq : q ≤ rest.length) (hv : rest[j]? = some v) : (rowJ rest q j).set j v = rowJ rest q (j + 1) := by
  unfold rowJ
  have hl : (rest.take j).length = j := by rw [List.length_take]; omega
  rw [List.set_append_right _ _ (by omega), hl, Nat.sub_self, show q - j = (q - (j + 1)) + 1 by omega, List.replicate_succ, List.set_cons_zero, List.take_add_one, hv]
  simp
/-- How far placeLarge has come: j pages behind the first one are taken, and laid into block g. -/
structure Pgs (w0 w : World) (y : Gx) (n : Int) (O fl rest : List Int) (g q j : Nat) : Prop where
  pm : Pl.Pm w y.pp y.pa y.K (takeN (j + 1) n O fl).1 (rest.drop j)
  clo : Pl.Clo w y.pa g (rest.drop j)
  row : IRow w g (rowJ rest q j)
  bt : But (Pl.Own y.pp y.pa) w0 w
  two : Two w y
  lo : w0.heap.size ≤ g
variable {w0 w5 : World} {n : Int} {rest : List Int} {g q j : Nat}
theorem Pgs.take (h : Pgs w0 w y n O fl rest g q j) (hp : ¬ Pl.Own y.pp y.pa g) (hgo : ¬ Pl.Own y.pp y.pa y.g) (hgg : y.g ≠ g) (hj : j < q) (hq : q ≤ rest.length) (hfl : fl[j + 1]? = rest[j]?) {v : Nat} (hv : rest[j]? = some (v : Int))
    (p5 : Pl.Pm w5 y.pp y.pa y.K ((takeN (j + 1) n O fl).1.set v n) (rest.drop (j + 1))) (c5 : Pl.Clo w5 y.pa g (rest.drop (j + 1))) (b5 : But (Pl.Own y.pp y.pa) w w5) :
    w5.frozen? ⟨g, j, none⟩ = false ∧ w5.cell? ⟨g, j, none⟩ = some (.int .i64 0) ∧ Pgs w0 (w5.setCell ⟨g, j, none⟩ (.int .i64 (v : Int))) y n O fl rest g q (j + 1) := by
  have r5 := h.row.but b5 hp
  have hl := rowJ_len (rest := rest) (q := q) (j := j) (by omega) hq
  have c0 : (rowJ rest q j)[j]? = some 0 := by
    unfold rowJ
    have hl : (rest.take j).length = j := by rw [List.length_take]; omega
    rw [List.getElem?_append_right (by omega), hl, Nat.sub_self, List.getElem?_replicate, if_pos (by omega)]
  have bs : But (· = g) w5 (w5.setCell ⟨g, j, none⟩ (.int .i64 (v : Int))) := (But.refl (· = g) w5).setCell (p := ⟨g, j, none⟩) (fun _ => rfl) _
  have na : y.pp ≠ g ∧ y.pa ≠ g := ⟨fun e => hp (Or.inl e.symm), fun e => hp (Or.inr e.symm)⟩
  have vk : v < 1024 := by
    have := h.pm.wf.free (v : Int) (by rw [drop_here hv]; simp)
    obtain ⟨k, e, hk⟩ := this
    obtain ⟨hk, _⟩ := List.getElem?_eq_some_iff.1 hk
    have := h.pm.wf.len
    have := h.pm.k2
    omega
  refine ⟨r5.free j (by omega), r5.cell j 0 c0, ⟨?_, ?_, ?_, ?_, (h.two.but b5 hgo).but bs hgg, h.lo⟩⟩
  · have e := takeN_last (j + 1) n O fl (v : Int) (by rw [hfl]; exact hv)
    rw [e]
    dsimp only
    rw [Int.toNat_natCast]
    exact p5.past c5 bs na.1 na.2 (fun i e => by omega)
  · exact c5.but bs na.2 p5.asize
  · rw [← rowJ_set hj hq hv]
    exact r5.set (by omega) (by omega)
  · exact (h.bt.trans b5).setCell (p := ⟨g, j, none⟩) (fun hlt => absurd hlt (Nat.not_lt.2 h.lo)) _
end
end Go.Proofs.Ytfkegbipfekbdaa.Room
