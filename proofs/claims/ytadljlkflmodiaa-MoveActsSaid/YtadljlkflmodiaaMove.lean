/-
  Package move, its ground: what a Move is in memory ('Mv', with its arena 'Mw'), and the contracts of inside, meet, ahead and its closure, Left, carry, New.
-/
import Derived.Test.YtadljlkflmodiaaArenaUse
import Derived.Test.YtadljlkflmodiaaRegImp
import Derived.Test.YtadljlkflmodiaaQuietImp
import Derived.Lib.MinMax
import Derived.StillTailTactics
namespace Go.Proofs.Ytadljlkflmodiaa
open Go.ChangeShapes Go.WideShapes Go.ChangeAt Go.RowKit

/-- Where a move may be, in so many bytes. -/
def mayMove (len : Nat) (f t s : Int) : Prop := 1 ≤ s ∧ (0 ≤ f ∧ f + s ≤ len) ∧ (0 ≤ t ∧ t + s ≤ len) ∧ (f + s ≤ t ∨ t + s ≤ f)
instance (len : Nat) (f t s : Int) : Decidable (mayMove len f t s) := inferInstanceAs (Decidable (_ ∧ (_ ∧ _) ∧ (_ ∧ _) ∧ (_ ∨ _)))
/-- n bytes are laid once more, from at on. -/
def laid (xs : List Int) (f t at_ n : Nat) : List Int := splice xs (t + at_) (sub xs (f + at_) n)
theorem laid_zero {xs : List Int} {f t at_ : Nat} (h : t + at_ ≤ xs.length) : laid xs f t at_ 0 = xs := by rw [laid, sub_zero, splice_nil _ _ h]
theorem length_laid {xs : List Int} {f t at_ n : Nat} (hf : f + at_ + n ≤ xs.length) (ht : t + at_ + n ≤ xs.length) : (laid xs f t at_ n).length = xs.length :=
  length_splice _ _ _ (by rw [length_sub _ _ _ hf]; exact ht)
/-- So many go, of s, of which g are gone. -/
def goes (s g : Nat) (n : Int) : Nat := (max 0 (min n ((s : Int) - (g : Int)))).toNat
/-- So many of n, from at on, are gone. -/
def again (g at_ n : Nat) : Nat := min n (g - at_)
theorem goes_le {s g : Nat} (h : g ≤ s) (n : Int) : g + goes s g n ≤ s := by unfold goes; omega
theorem goes_int {s g : Nat} (n : Int) : max 0 (min n ((s : Int) - (g : Int))) = (goes s g n : Int) := by unfold goes; omega
theorem again_int {g at_ n : Nat} : max 0 (min (n : Int) ((g : Int) - (at_ : Int))) = (again g at_ n : Int) := by unfold again; omega
theorem again_le {g s at_ n : Nat} (h : at_ + n ≤ s) : at_ + again g at_ n ≤ s := by unfold again; omega

/-- Block q is a move of s bytes, from f to t, of which g are gone; it lays by the arena in block p. -/
structure Mv (w : World) (q p f t s g : Nat) : Prop where
  c0 : w.cell? ⟨q, 0, none⟩ = some (.int .i64 (f : Int))
  c1 : w.cell? ⟨q, 1, none⟩ = some (.int .i64 (t : Int))
  c2 : w.cell? ⟨q, 2, none⟩ = some (.int .i64 (s : Int))
  c3 : w.cell? ⟨q, 3, none⟩ = some (.int .i64 (g : Int))
  c4 : w.cell? ⟨q, 4, none⟩ = some (.func (.func 32) #[.pointer (some ⟨p, 0, none⟩)] #[])
  free : w.frozen? ⟨q, 3, none⟩ = false
  gs : g ≤ s
section
variable {w w' : World} {q p f t s g : Nat}
theorem Mv.size (h : Mv w q p f t s g) : q < w.heap.size := lt_of_cell (p := ⟨q, 0, none⟩) h.c0
theorem Mv.but {S : Nat → Prop} (h : Mv w q p f t s g) (hb : But S w w') (hn : ¬ S q) : Mv w' q p f t s g :=
  ⟨(hb.cell (p := ⟨q, 0, none⟩) h.size hn).trans h.c0, (hb.cell (p := ⟨q, 1, none⟩) h.size hn).trans h.c1, (hb.cell (p := ⟨q, 2, none⟩) h.size hn).trans h.c2, (hb.cell (p := ⟨q, 3, none⟩) h.size hn).trans h.c3, (hb.cell (p := ⟨q, 4, none⟩) h.size hn).trans h.c4,
    (hb.frozen (p := ⟨q, 3, none⟩) h.size hn).trans h.free, h.gs⟩
theorem Mv.set (h : Mv w q p f t s g) {g' : Nat} (hg : g' ≤ s) : Mv (w.setCell ⟨q, 3, none⟩ (.int .i64 (g' : Int))) q p f t s g' :=
  ⟨(World.cell?_setCell_other w ⟨q, 3, none⟩ ⟨q, 0, none⟩ _ (by simp)).trans h.c0, (World.cell?_setCell_other w ⟨q, 3, none⟩ ⟨q, 1, none⟩ _ (by simp)).trans h.c1, (World.cell?_setCell_other w ⟨q, 3, none⟩ ⟨q, 2, none⟩ _ (by simp)).trans h.c2,
    World.cell?_setCell_same w _ _ h.c3, (World.cell?_setCell_other w ⟨q, 3, none⟩ ⟨q, 4, none⟩ _ (by simp)).trans h.c4, by simpa using h.free, hg⟩
end

/-- A move, and its arena: block b has the bytes xs; it charges m. -/
structure Mw (w : World) (q p b : Nat) (m : Option Nat) (xs : List Int) (tt l : Int) (f t s g : Nat) : Prop where
  mv : Mv w q p f t s g
  ar : Ar w p b m xs tt l
  qp : q ≠ p
  qb : q ≠ b
  qm : m ≠ some q
  fs : f + s ≤ xs.length
  ts : t + s ≤ xs.length
/-- What a move may turn: itself, the bytes, the meter. -/
def Ours (q b : Nat) (m : Option Nat) (i : Nat) : Prop := i = q ∨ Mine b m i
section
variable {w w' : World} {q p b : Nat} {m : Option Nat} {xs : List Int} {tt l : Int} {f t s g : Nat}
theorem Mw.but {S : Nat → Prop} (h : Mw w q p b m xs tt l f t s g) (hb : But S w w') (hq : ¬ S q) (hp : ¬ S p) (hn : ¬ S b) (hm : ∀ g, m = some g → ¬ S g) : Mw w' q p b m xs tt l f t s g :=
  ⟨h.mv.but hb hq, h.ar.but hb hp hn hm, h.qp, h.qb, h.qm, h.fs, h.ts⟩
theorem Mw.below (h : Mw w q p b m xs tt l f t s g) (hb : Below w.heap.size w w') : Mw w' q p b m xs tt l f t s g := h.but (Below.but hb fun _ => False) id id id fun _ _ => id
theorem Mw.drewN (h : Mw w q p b m xs tt l f t s g) (k : Nat) : Mw (w.drewN k) q p b m xs tt l f t s g := h.but ((But.refl (fun _ => False) w).drewN k) id id id fun _ _ => id
theorem Mw.not (h : Mw w q p b m xs tt l f t s g) : ¬ Mine b m q := fun e => by
  rcases e with e | e
  · exact h.qb e
  · exact h.qm e
/-- Behind bytes that were laid, by the arena. -/
theorem Mw.laid (h : Mw w q p b m xs tt l f t s g) {xs' : List Int} {tt' : Int} (ha : Ar w' p b m xs' tt' l) (hl : xs'.length = xs.length) (hb : But (Mine b m) w w') : Mw w' q p b m xs' tt' l f t s g :=
  ⟨h.mv.but hb h.not, ha, h.qp, h.qb, h.qm, by rw [hl]; exact h.fs, by rw [hl]; exact h.ts⟩
theorem Mw.set (h : Mw w q p b m xs tt l f t s g) {g' : Nat} (hg : g' ≤ s) : Mw (w.setCell ⟨q, 3, none⟩ (.int .i64 (g' : Int))) q p b m xs tt l f t s g' :=
  ⟨h.mv.set hg, h.ar.but ((But.refl (· = q) w).setCell (p := ⟨q, 3, none⟩) (fun _ => rfl) _) (fun e => h.qp e.symm) (fun e => h.qb e.symm) (fun i e r => h.qm (by rw [e, r])), h.qp, h.qb, h.qm, h.fs, h.ts⟩
theorem But.ours (hb : But (Mine b m) w w') (q : Nat) : But (Ours q b m) w w' := hb.mono fun _ _ e => Or.inr e
theorem Mw.mine {B : Nat} (hb : But (Ours q b m) w w') (hB : B ≤ w.heap.size) (h0 : B ≤ q) (h1 : B ≤ b) (h2 : ∀ g, m = some g → B ≤ g) : Below B w w' :=
  hb.below hB fun k hk s => by
    rcases s with rfl | rfl | e
    · omega
    · omega
    · have := h2 k e; omega
end

theorem meet_any (x y s : Int) (w : World) (hx : 0 ≤ x ∧ x ≤ 4194304) (hy : 0 ≤ y ∧ y ≤ 4194304) :
    Calls Try.prog 31 #[.int .i64 x, .int .i64 y, .int .i64 s] w (B1 (decide (max x y - min x y < s)) w) := by
  have hw : IntKind.i64.wrap (max x y - min x y) = max x y - min x y := IntWalk.i64_in _ (by omega)
  go_enter Try.func31, Try.ntmps31
  go_wp2
  go_ret
  exact ⟨rfl, rfl⟩
theorem inside_any {w : World} {p b : Nat} {m : Option Nat} {xs : List Int} {tt l : Int} (h : Ar w p b m xs tt l) (at_ s : Int) (hs : 1 ≤ s ∧ s ≤ 9223372036854775807) :
    Calls Try.prog 30 #[.pointer (some ⟨p, 0, none⟩), .int .i64 at_, .int .i64 s] w (B1 (decide (0 ≤ at_ ∧ at_ + s ≤ (xs.length : Int))) w) := by
  have HL := Lib.hid (len_any h)
  have hmax := h.max
  generalize xs.length = n at HL hmax ⊢
  have hw : IntKind.i64.wrap ((n : Int) - s) = (n : Int) - s := IntWalk.i64_in _ (by omega)
  clear h
  by_cases h1 : 0 ≤ at_
  · have d1 : decide ((0 : Int) ≤ at_) = true := by simp [h1]
    have e : decide (0 ≤ at_ ∧ at_ + s ≤ (n : Int)) = decide (at_ ≤ (n : Int) - s) := by rw [decide_eq_decide]; omega
    rw [e]
    clear e
    go_enter Try.func30, Try.ntmps30
    go_wp2_with fail
    refine HL.out.mono ?_
    rintro e w' ⟨rfl, rfl⟩
    go_wp2
    go_ret
    exact ⟨rfl, rfl⟩
  · have d1 : decide ((0 : Int) ≤ at_) = false := by simp; omega
    have e : decide (0 ≤ at_ ∧ at_ + s ≤ (n : Int)) = false := by rw [decide_eq_false_iff_not]; omega
    rw [e]
    clear e
    go_enter Try.func30, Try.ntmps30
    go_wp2
    go_ret
    exact ⟨rfl, rfl⟩

theorem ahead_any (E : Int) (w : World) :
    Calls Try.prog 36 #[.int .i64 E] w
      fun e w' => e = .returned (.func (.func 43) #[] #[.pointer (some ⟨w.heap.size, 0, none⟩)]) ∧ w' = w.alloc (.cells #[.int .i64 E] 3) := by
  have hmf : ∀ (fn : Fn) (first cap : Array Value) (w : World), (Instr.makeFunc fn first cap).run Try.prog w = .ok (.func fn first cap) w := fun _ _ _ _ => rfl
  go_enter Try.func36, Try.ntmps36
  go_wp2
  go_ret
  exact ⟨rfl, rfl⟩
/-- The closure: how many of n, from at on, stand ahead of E. -/
theorem closure_any (E at_ n : Int) (c : Nat) (w : World) (hc : w.cell? ⟨c, 0, none⟩ = some (.int .i64 E)) (hE : -9223372036854775808 ≤ E - at_ ∧ E - at_ ≤ 9223372036854775807) :
    Calls Try.prog 43 #[.int .i64 at_, .int .i64 n, .pointer (some ⟨c, 0, none⟩)] w (R1 (max 0 (min n (E - at_))) w) := by
  have hw : IntKind.i64.wrap (E - at_) = E - at_ := IntWalk.i64_in _ (by omega)
  clear hE
  go_enter Try.func43, Try.ntmps43
  go_wp2
  go_ret
  exact ⟨rfl, rfl⟩

theorem left_nil (w : World) : Calls Try.prog 19 #[.pointer none] w (R1 0 w) := by
  go_enter Try.func19, Try.ntmps19
  go_wp2
  go_ret
  exact ⟨rfl, rfl⟩
theorem left_any {w : World} {q p f t s g : Nat} (h : Mv w q p f t s g) (hs : s ≤ 4194304) : Calls Try.prog 19 #[.pointer (some ⟨q, 0, none⟩)] w (RQ ((s : Int) - (g : Int)) w) := by
  have h2 := h.c2
  have h3 := h.c3
  have hg := h.gs
  have hw : IntKind.i64.wrap ((s : Int) - (g : Int)) = (s : Int) - (g : Int) := IntWalk.i64_in _ (by omega)
  clear h hg hs
  go_enter Try.func19, Try.ntmps19
  go_wp2
  go_quiet (fail)
  go_wp2
  go_ret
  exact ⟨rfl, _, rfl⟩

section
variable {w : World} {q p b : Nat} {m : Option Nat} {xs : List Int} {tt l : Int} {f t s g : Nat}
theorem carry_any (h : Mw w q p b m xs tt l f t s g) (at_ n : Nat) (hn : at_ + n ≤ s) :
    Calls Try.prog 37 #[.pointer (some ⟨q, 0, none⟩), .int .i64 (at_ : Int), .int .i64 (n : Int)] w fun e w' => e = .returned (.int .i64 0) ∧ Mw w' q p b m (laid xs f t at_ n) (more tt n) l f t s g ∧ But (Mine b m) w w' := by
  have hf := h.fs
  have ht := h.ts
  have hmax := h.ar.max
  by_cases h0 : n = 0
  · subst h0
    rw [laid_zero (by omega), show more tt ((0 : Nat) : Int) = tt by simp [more]]
    have H := Lib.hid h
    clear h
    go_enter Try.func37, Try.ntmps37
    go_wp2
    go_ret
    exact ⟨rfl, H.out, But.refl _ _⟩
  · have d0 : ((n : Int) == 0) = false := by simpa using h0
    obtain ⟨c0, c1, _, _, c4, _, _⟩ := h.mv
    have w1 : IntKind.i64.wrap ((t : Int) + (at_ : Int)) = ((t + at_ : Nat) : Int) := by rw [IntWalk.i64_in _ (by omega)]; simp
    have w2 : IntKind.i64.wrap ((f : Int) + (at_ : Int)) = ((f + at_ : Nat) : Int) := by rw [IntWalk.i64_in _ (by omega)]; simp
    have HC := Lib.hid (copy_ok (w := w.drew) (h.drewN 1).ar (t + at_) (f + at_) n (by omega) (by omega))
    have HL := Lib.hid (length_laid (xs := xs) (f := f) (t := t) (at_ := at_) (n := n) (by omega) (by omega))
    have H := Lib.hid h
    clear h hf ht hmax hn
    go_enter Try.func37, Try.ntmps37
    go_wp2
    go_still_tail 17, (by kernel_rfl)
    change wpList _ _ _ _ _ w.drew
    have BD := Lib.hid (show But (Mine b m) w w.drew from (But.refl _ _).drew)
    generalize w.drew = w2 at *
    go_wp2_with fail
    refine HC.out.mono ?_
    rintro e w5 ⟨rfl, a5, b5⟩
    have A5 := Lib.hid a5
    have B5 := Lib.hid b5
    clear a5 b5
    go_wp2
    go_ret
    have hb : But (Mine b m) w w5 := BD.out.trans B5.out
    exact ⟨rfl, H.out.laid A5.out HL.out hb, hb⟩
end
end Go.Proofs.Ytadljlkflmodiaa
