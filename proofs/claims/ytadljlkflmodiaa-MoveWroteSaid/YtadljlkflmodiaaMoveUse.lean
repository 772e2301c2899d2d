/-
  A move's arena, written and read beside the move; bytes written out in the program's text. The calls are package arena's.
-/
import Derived.Test.YtadljlkflmodiaaMoveStep
import Derived.Test.YtadljlkflmodiaaArenaMade
import Derived.Lib.SlBytesConst
namespace Go.Proofs.Ytadljlkflmodiaa
open Go.ChangeShapes Go.WideShapes Go.ChangeAt Go.RowKit

instance (xs : List Int) : Decidable (Byt xs) := inferInstanceAs (Decidable (∀ x ∈ xs, 0 ≤ x ∧ x ≤ 255))
/-- '[]byte("..")' of a text that the program lays: its conversion marks a place behind the last cell. -/
theorem bytes_lit (w : World) (C : Array Value) (n c : Nat) : (convert 22 22 (.slice (some ⟨w.heap.size, 0, none⟩) n c)).run Try.prog (w.alloc (.cells C 5)) = .ok (.slice (some ⟨w.heap.size, 0, none⟩) n c) (w.alloc (.cells C 5 (C.size, C.size + 1))) :=
  Lib.run_convert_bytes_const w 22 5 C n c slice31 Try.underlying5
theorem lit_row (w : World) (xs : List Int) (cs : Array Value) (t : TypeId) (hc : cs = (xs.map (Value.int .u8)).toArray) (hb : Byt xs) (hm : xs.length ≤ 4194304) : Row (w.alloc (.cells cs t (cs.size, cs.size + 1))) w.heap.size xs := by
  have hh : (w.alloc (.cells cs t (cs.size, cs.size + 1))).heap[w.heap.size]? = some (.cells cs t (cs.size, cs.size + 1)) := by simp only [World.alloc, Array.getElem?_push, if_true]
  refine ⟨fun k s hs => ?_, fun k hk => ?_, hb, by simp, hm⟩
  · rw [World.cell?, hh]
    subst hc
    simp [hs]
  · rw [World.frozen?, hh]
    subst hc
    simp
    omega

section
variable {w w' : World} {q p b : Nat} {m : Option Nat} {xs : List Int} {tt l : Int} {f t s g : Nat}
theorem mwrite_ok (h : Mw w q p b m xs tt l f t s g) (at_ : Nat) (a : Option Addr) (n c B : Nat) (ys : List Int) (hy : ∀ w', But (fun i => m = some i) w w' → Bytes w' B a n ys) (hl : ys.length = n) (hn : at_ + n ≤ xs.length) :
    Calls Try.prog 12 #[.pointer (some ⟨p, 0, none⟩), .int .i64 (at_ : Int), .slice a n c] w fun e w' => e = .returned (.int .i64 0) ∧ Mw w' q p b m (splice xs at_ ys) (more tt n) l f t s g ∧ But (Mine b m) w w' := by
  refine (write_ok h.ar at_ a n c B ys hy hn).mono ?_
  rintro e w' ⟨rfl, ha, hb⟩
  exact ⟨rfl, h.laid ha (length_splice _ _ _ (by rw [hl]; exact hn)) hb, hb⟩
theorem mread_ok (h : Mw w q p b m xs tt l f t s g) (at_ n : Nat) (hn : at_ + n ≤ xs.length) :
    Calls Try.prog 21 #[.pointer (some ⟨p, 0, none⟩), .int .i64 (at_ : Int), .int .i64 (n : Int)] w fun e w' => ∃ g', e = .returned (.tuple #[.slice (some ⟨g', 0, none⟩) n n, .int .i64 0]) ∧ Row w' g' (sub xs at_ n) ∧ Mw w' q p b m xs (more tt n) l f t s g ∧ But (Mine b m) w w' ∧ w.heap.size ≤ g' := by
  refine (read_ok h.ar at_ n hn).mono ?_
  rintro e w' ⟨g', rfl, hr, ha, hb, hg⟩
  exact ⟨g', rfl, hr, h.laid ha rfl hb, hb, hg⟩
/-- All are gone: none goes. -/
theorem step_done (h : Mw w q p b m xs tt l f t s s) (n : Int) :
    Calls Try.prog 22 #[.pointer (some ⟨q, 0, none⟩), .int .i64 n] w fun e w' => e = .returned (.int .i64 0) ∧ Mw w' q p b m xs tt l f t s s ∧ But (Ours q b m) w w' := by
  refine (step_any h n).mono ?_
  have hg : goes s s n = 0 := by unfold goes; omega
  rw [hg, laid_zero (by have := h.ts; omega), show more tt ((0 : Nat) : Int) = tt by simp [more]]
  rintro e w' ⟨rfl, hm, hb⟩
  exact ⟨rfl, hm, hb⟩
/-- Where nobody is charged, the count may be called anything. -/
theorem Mw.free (h : Mw w q p b none xs tt l f t s g) (tt' l' : Int) : Mw w q p b none xs tt' l' f t s g := ⟨h.mv, h.ar.free tt' l', h.qp, h.qb, h.qm, h.fs, h.ts⟩
/-- Behind a lap. -/
theorem Mw.lapped {γ : Nat} (h : Mw w q p b (some γ) xs tt l f t s g) {l' : Int} (hm : Mt w' γ tt l') (hb : But (· = γ) w w') : Mw w' q p b (some γ) xs tt l' f t s g :=
  have np : ¬ p = γ := fun e => h.ar.mp (by rw [e])
  have nb : ¬ b = γ := fun e => h.ar.mb (by rw [e])
  have nq : ¬ q = γ := fun e => h.qm (by rw [e])
  ⟨h.mv.but hb nq, ⟨(hb.cell (p := ⟨p, 0, none⟩) h.ar.size np).trans h.ar.bytes, (hb.cell (p := ⟨p, 1, none⟩) h.ar.size np).trans h.ar.charge, h.ar.row.but hb nb, Mo.one hm, h.ar.pb, h.ar.mp, h.ar.mb⟩, h.qp, h.qb, h.qm, h.fs, h.ts⟩
theorem more_small {t n : Int} (t0 : 0 ≤ t) (t1 : t ≤ 1000000) (n0 : 0 ≤ n) (n1 : n ≤ 1000000) : more t n = t + n := by
  unfold more
  split
  · omega
  · split <;> omega
theorem Ar.minB {B : Nat} (hb : But (Mine b none) w w') (hB : B ≤ w.heap.size) (h1 : B ≤ b) : Below B w w' := Ar.mine hb hB h1 fun _ e => by cases e
theorem Mw.minB {B : Nat} (hb : But (Ours q b none) w w') (hB : B ≤ w.heap.size) (h0 : B ≤ q) (h1 : B ≤ b) : Below B w w' := Mw.mine hb hB h0 h1 fun _ e => by cases e
end
end Go.Proofs.Ytadljlkflmodiaa
