/-
  The law's own 'do' of package move, met by one contract: it comes to 'actOut'.
-/
import Derived.Test.YtadljlkflmodiaaMoveAct
namespace Go.Proofs.Ytadljlkflmodiaa
open Go.ChangeShapes Go.WideShapes Go.ChangeAt Go.RowKit

theorem more_zero (t : Int) : more t 0 = t := by simp [more]
section
variable {w : World} {q p b : Nat} {m : Option Nat} {xs : List Int} {tt l : Int} {f t s g : Nat}
/-- How 'do' ends. -/
def DoEnds (q p b : Nat) (m : Option Nat) (tt l : Int) (f t s : Nat) (o : MOut) (w : World) (e : Ending) (w' : World) : Prop :=
  e = .returned (.int .i64 (o.told : Int)) ∧ Mw w' q p b m o.xs (more (more tt o.s1) o.s2) l f t s o.gone ∧ But (Ours q b m) w w'
theorem do_any (h : Mw w q p b m xs tt l f t s g) (u : Ac) (B : Nat) (hu : u.ok w B) (hB : B ≤ w.heap.size) (hm : ∀ γ, m = some γ → B ≤ γ) :
    Calls Try.prog 17 #[.pointer (some ⟨p, 0, none⟩), .pointer (some ⟨q, 0, none⟩), .int .i64 (f : Int), .int .i64 (s : Int), .agg #[.bool u.step, .int .i64 u.at_, .int .i64 u.n, .slice u.ba u.bn u.bc]] w (DoEnds q p b m tt l f t s (actOut xs f t s g u) w) := by
  have hmax := h.ar.max
  have hfs := h.fs
  obtain ⟨ha, hn, hy⟩ := hu
  have hl := hy.max
  have M0 := Lib.hid (h.below (below1 w (.cells #[.bool u.step, .int .i64 u.at_, .int .i64 u.n, .slice u.ba u.bn u.bc] 48)))
  have B0 := Lib.hid ((But.refl (Ours q b m) w).alloc (.cells #[.bool u.step, .int .i64 u.at_, .int .i64 u.n, .slice u.ba u.bn u.bc] 48))
  have H := Lib.hid h
  by_cases hs : u.step = true
  · rw [hs] at M0 B0 ⊢
    have HS := Lib.hid (step_any M0.out u.n)
    rw [show actOut xs f t s g u = ⟨goes s g u.n, laid xs f t g (goes s g u.n), g + goes s g u.n, 0, goes s g u.n⟩ by unfold actOut; rw [if_pos hs]]
    generalize goes s g u.n = k at HS ⊢
    clear h hs hy hmax hfs
    go_enter Try.func17, Try.ntmps17
    go_wp2_with fail
    refine HS.out.mono ?_
    rintro e w1 ⟨rfl, m1, b1⟩
    have M1 := Lib.hid m1
    have B1 := Lib.hid (B0.out.trans b1)
    clear m1 b1
    go_wp2
    go_ret
    refine ⟨rfl, ?_, B1.out⟩
    show Mw _ q p b m _ (more (more tt ((0 : Nat) : Int)) k) l f t s _
    rw [show more tt ((0 : Nat) : Int) = tt from more_zero tt]
    exact M1.out
  · have hs' : u.step = false := by simpa using hs
    rw [hs'] at M0 B0 ⊢
    by_cases hr : 0 ≤ u.at_ ∧ u.at_ + u.bn ≤ (s : Int)
    · obtain ⟨a, hat⟩ : ∃ a : Nat, u.at_ = (a : Int) := ⟨u.at_.toNat, by omega⟩
      rw [show actOut xs f t s g u = ⟨0, laid (splice xs (f + a) u.bs) f t a (again g a u.bn), g, u.bn, again g a u.bn⟩ by unfold actOut; rw [if_neg hs, if_pos hr, hat, Int.toNat_natCast]]
      rw [hat] at M0 B0 hr ⊢
      have d1 : decide ((a : Int) < 0) = false := by simp
      have d2 : decide ((s : Int) < (u.bn : Int)) = false := by simp; omega
      have hw : IntKind.i64.wrap ((s : Int) - (u.bn : Int)) = (s : Int) - (u.bn : Int) := IntWalk.i64_in _ (by omega)
      have d3 : decide ((s : Int) - (u.bn : Int) < (a : Int)) = false := by rw [decide_eq_false_iff_not]; omega
      have hw2 : IntKind.i64.wrap ((f : Int) + (a : Int)) = ((f + a : Nat) : Int) := by rw [IntWalk.i64_in _ (by omega)]; simp
      have d2n : decide (s < u.bn) = false := by simp; omega
      have HW := Lib.hid (mwrite_ok M0.out (f + a) u.ba u.bn u.bc B u.bs (fun w' hb => (hy.below ((below1 w _).mono hB)).but hb (by simp; omega) (fun i hi e => by have := hm i e; omega)) hy.len (by omega))
      have HR : Hid (∀ w1, Mw w1 q p b m (splice xs (f + a) u.bs) (more tt u.bn) l f t s g → Calls Try.prog 24 #[.pointer (some ⟨q, 0, none⟩), .int .i64 (a : Int), .int .i64 (u.bn : Int)] w1 fun e w' => e = .returned (.int .i64 0) ∧ Mw w' q p b m (laid (splice xs (f + a) u.bs) f t a (again g a u.bn)) (more (more tt u.bn) (again g a u.bn)) l f t s g ∧ But (Mine b m) w1 w') :=
        Lib.hid (fun w1 m1 => wrote_ok m1 a u.bn (by omega))
      have HZ : Hid (¬ Mine b m w.heap.size) := Lib.hid (fun e => by
        rcases e with e | e
        · have := h.ar.row.size; omega
        · have := (h.ar.mo _ e).size; omega)
      generalize again g a u.bn = R at HR ⊢
      clear h hy hmax hfs hs hs' hr ha hn
      go_enter Try.func17, Try.ntmps17
      go_wp2_with fail
      refine HW.out.mono ?_
      rintro e w1 ⟨rfl, m1, b1⟩
      have z1 : w1.cell? ⟨w.heap.size, 1, none⟩ = some (.int .i64 (a : Int)) := (b1.cell (p := ⟨w.heap.size, 1, none⟩) (by simp) HZ.out).trans (by go_simp)
      have z3 : w1.cell? ⟨w.heap.size, 3, none⟩ = some (.slice u.ba u.bn u.bc) := (b1.cell (p := ⟨w.heap.size, 3, none⟩) (by simp) HZ.out).trans (by go_simp)
      have HR1 := Lib.hid (HR.out _ m1)
      have B1 := Lib.hid (B0.out.trans (b1.ours q))
      clear m1 b1 HR HW
      go_wp2_with fail
      refine HR1.out.mono ?_
      rintro e w2 ⟨rfl, m2, b2⟩
      have M2 := Lib.hid m2
      have B2 := Lib.hid (B1.out.trans (b2.ours q))
      clear m2 b2 HR1
      go_wp2
      go_ret
      exact ⟨rfl, M2.out, B2.out⟩
    · rw [show actOut xs f t s g u = ⟨0, xs, g, 0, 0⟩ by unfold actOut; rw [if_neg hs, if_neg hr]]
      have M1 : Hid (Mw (w.alloc (.cells #[.bool false, .int .i64 u.at_, .int .i64 u.n, .slice u.ba u.bn u.bc] 48)) q p b m xs (more (more tt ((0 : Nat) : Int)) ((0 : Nat) : Int)) l f t s g) := Lib.hid (by
        rw [show more tt ((0 : Nat) : Int) = tt from more_zero tt, show more tt ((0 : Nat) : Int) = tt from more_zero tt]
        exact M0.out)
      generalize u.bn = bn at *
      generalize u.at_ = at_ at *
      clear h hy hmax hs hs' hn
      by_cases h1 : at_ < 0
      · have d1 : decide (at_ < 0) = true := by simpa using h1
        clear hr
        go_enter Try.func17, Try.ntmps17
        go_wp2
        go_ret
        exact ⟨rfl, M1.out, B0.out⟩
      · have d1 : decide (at_ < 0) = false := by simpa using h1
        by_cases h2 : s < bn
        · have d2 : decide ((s : Int) < (bn : Int)) = true := by simp; omega
          clear hr
          go_enter Try.func17, Try.ntmps17
          go_wp2
          go_ret
          exact ⟨rfl, M1.out, B0.out⟩
        · have d2 : decide ((s : Int) < (bn : Int)) = false := by simp; omega
          have hw : IntKind.i64.wrap ((s : Int) - (bn : Int)) = (s : Int) - (bn : Int) := IntWalk.i64_in _ (by omega)
          have d3 : decide ((s : Int) - (bn : Int) < at_) = true := by rw [decide_eq_true_iff]; omega
          clear hr
          go_enter Try.func17, Try.ntmps17
          go_wp2
          go_ret
          exact ⟨rfl, M1.out, B0.out⟩
end
end Go.Proofs.Ytadljlkflmodiaa
