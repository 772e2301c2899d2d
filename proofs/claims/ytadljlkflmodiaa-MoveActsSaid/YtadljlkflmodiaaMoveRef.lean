/-
  The document's own answers for package move (almeryref15): in, New, some: each met by a contract.
-/
import Derived.Test.YtadljlkflmodiaaMoveAct
import Derived.Test.YtadljlkflmodiaaArenaRefCopy
import Derived.Test.YtadljlkflmodiaaArenaKeep
import Derived.Test.YtadljlkflmodiaaCells
namespace Go.Proofs.Ytadljlkflmodiaa
open Go.ChangeShapes Go.WideShapes Go.ChangeAt Go.RowKit

theorem refIn_any (a : Option Addr) (n c : Nat) (st at_ k : Int) (w : World) (hn : n ≤ 4194304) (hk : 1 ≤ k ∧ k ≤ 9223372036854775807) :
    Calls Try.prog 33 #[.agg #[.slice a n c, .int .i64 st], .int .i64 at_, .int .i64 k] w fun e w' => e = .returned (.bool (decide (0 ≤ at_ ∧ at_ + k ≤ (n : Int)))) ∧ w' = w.alloc (.cells #[.slice a n c, .int .i64 st] 35) := by
  by_cases h1 : 0 ≤ at_
  · have d1 : decide ((0 : Int) ≤ at_) = true := by simpa using h1
    by_cases h3 : k ≤ (n : Int)
    · have d3 : decide (k ≤ (n : Int)) = true := by simpa using h3
      have hw : IntKind.i64.wrap ((n : Int) - k) = (n : Int) - k := IntWalk.i64_in _ (by omega)
      rw [show decide (0 ≤ at_ ∧ at_ + k ≤ (n : Int)) = decide (at_ ≤ (n : Int) - k) by rw [decide_eq_decide]; omega]
      go_enter Try.func33, Try.ntmps33
      go_wp2
      go_ret
      exact ⟨rfl, rfl⟩
    · have d3 : decide (k ≤ (n : Int)) = false := by simpa using h3
      rw [show decide (0 ≤ at_ ∧ at_ + k ≤ (n : Int)) = false by rw [decide_eq_false_iff_not]; omega]
      go_enter Try.func33, Try.ntmps33
      go_wp2
      go_ret
      exact ⟨rfl, rfl⟩
  · have d1 : decide ((0 : Int) ≤ at_) = false := by simpa using h1
    rw [show decide (0 ≤ at_ ∧ at_ + k ≤ (n : Int)) = false by rw [decide_eq_false_iff_not]; omega]
    go_enter Try.func33, Try.ntmps33
    go_wp2
    go_ret
    exact ⟨rfl, rfl⟩

/-- What is known behind a document's call that answers an arena's bytes anew. -/
structure MF (w w' : World) (b0 N b o c : Nat) (ys : List Int) : Prop where
  bytes : Bytes w' w'.heap.size (some ⟨b, o, none⟩) N ys
  cap : N ≤ c
  below : Below w.heap.size w w'
  from_ : b = b0 ∨ w.heap.size ≤ b
/-- Memory of a call's own, laid ahead: what is known behind speaks of the world ahead. -/
theorem MF.ahead {w w1 w' : World} {b0 N b o c : Nat} {ys : List Int} (h : MF w1 w' b0 N b o c ys) (hb : Below w.heap.size w w1) : MF w w' b0 N b o c ys :=
  ⟨h.bytes, h.cap, belowT hb h.below, h.from_.imp_right (fun q => Nat.le_trans hb.size q)⟩
/-- Memory that is made behind. -/
theorem MF.more6 {w w' : World} {b0 N b o c : Nat} {ys : List Int} (h : MF w w' b0 N b o c ys) (x : Obj) : MF w (w'.alloc x) b0 N b o c ys :=
  ⟨h.bytes.on (below1 w' x), h.cap, belowT h.below (below1 w' x), h.from_⟩
/-- A store into memory of the call's own. -/
theorem MF.put {S : Nat → Prop} {w w1 w' : World} {b0 N b o c : Nat} {ys : List Int} (h : MF w w1 b0 N b o c ys) (hb : But S w1 w') (hS : ∀ k, S k → w.heap.size ≤ k ∧ k ≠ b) : MF w w' b0 N b o c ys :=
  ⟨(h.bytes.butAt hb (Nat.le_refl _) (fun q => (hS b q).2 rfl)).more hb.size, h.cap, h.below.trans (hb.below h.below.size (fun k hk q => by have := (hS k q).1; omega)), h.from_⟩

section
variable {w : World} {b o N c : Nat} {st f t s g : Int} {xs : List Int}
theorem refSome_none (hx : Bytes w w.heap.size (some ⟨b, o, none⟩) N xs) (hc : N ≤ c) (at_ n : Int) (hn : n < 1) :
    Calls Try.prog 42 #[.agg #[.slice (some ⟨b, o, none⟩) N c, .int .i64 st, .int .i64 f, .int .i64 t, .int .i64 s, .int .i64 g], .int .i64 at_, .int .i64 n] w fun e w' => e = .returned (.agg #[.slice (some ⟨b, o, none⟩) N c, .int .i64 st, .int .i64 f, .int .i64 t, .int .i64 s, .int .i64 g]) ∧ MF w w' b N b o c xs := by
  have d : decide (n < 1) = true := by simpa using hn
  have HE : Hid (∀ o1 o2 : Obj, MF w ((w.alloc o1).alloc o2) b N b o c xs) := Lib.hid (fun o1 o2 => ⟨hx.on (below2 w o1 o2), hc, below2 w o1 o2, Or.inl rfl⟩)
  clear hx hc hn
  go_enter Try.func42, Try.ntmps42
  go_wp2
  refine bodyPost_ret (v := .agg #[.slice (some ⟨b, o, none⟩) N c, .int .i64 st, .int .i64 f, .int .i64 t, .int .i64 s, .int .i64 g]) (by simp [results, Try.results42, go_sem]) rfl ?_
  exact ⟨rfl, HE.out _ _⟩
theorem refSome_ok (f t at_ k : Nat) (hx : Bytes w w.heap.size (some ⟨b, o, none⟩) N xs) (hc : N ≤ c) (hN : N ≤ 4194304) (s0 : 0 ≤ st) (s1 : st ≤ 1000000) (hf : f + at_ + k ≤ N) (ht : t + at_ + k ≤ N) (hk : 1 ≤ k) :
    Calls Try.prog 42 #[.agg #[.slice (some ⟨b, o, none⟩) N c, .int .i64 st, .int .i64 (f : Int), .int .i64 (t : Int), .int .i64 s, .int .i64 g], .int .i64 (at_ : Int), .int .i64 (k : Int)] w
      fun e w' => ∃ b' o' c', e = .returned (.agg #[.slice (some ⟨b', o', none⟩) N c', .int .i64 (st + k), .int .i64 (f : Int), .int .i64 (t : Int), .int .i64 s, .int .i64 g]) ∧ MF w w' b N b' o' c' (laid xs f t at_ k) := by
  have d : decide ((k : Int) < 1) = false := by simp; omega
  have dn : decide (k < 1) = false := by simp; omega
  have w1 : IntKind.i64.wrap ((t : Int) + (at_ : Int)) = ((t + at_ : Nat) : Int) := by rw [IntWalk.i64_in _ (by omega)]; simp
  have w2 : IntKind.i64.wrap ((f : Int) + (at_ : Int)) = ((f + at_ : Nat) : Int) := by rw [IntWalk.i64_in _ (by omega)]; simp
  obtain ⟨W, hW⟩ : ∃ W : World, W = ((w.alloc (.cells #[.slice (some ⟨b, o, none⟩) N c, .int .i64 st, .int .i64 (f : Int), .int .i64 (t : Int), .int .i64 s, .int .i64 g] 43)).alloc (.cells #[.slice none 0 0, .int .i64 0, .int .i64 0, .int .i64 0, .int .i64 0, .int .i64 0] 43)) := ⟨_, rfl⟩
  have bW : Below w.heap.size w W := by rw [hW]; exact below2 w _ _
  have sW : W.heap.size = w.heap.size + 2 := by rw [hW]; simp
  have X0 : Cs W w.heap.size [.slice (some ⟨b, o, none⟩) N c, .int .i64 st, .int .i64 (f : Int), .int .i64 (t : Int), .int .i64 s, .int .i64 g] := by rw [hW]; exact (Cs.new w _ _ rfl).below (below1 _ _)
  have Z0 : Cs W (w.heap.size + 1) [.slice none 0 0, .int .i64 0, .int .i64 0, .int .i64 0, .int .i64 0, .int .i64 0] := by rw [hW]; exact (Cs.new _ _ _ rfl).at_ (by simp)
  have HC := Lib.hid (refCopy_ok b o N c st (t + at_) (f + at_) k xs W (hx.on bW) hc (by omega) hN s0 s1 (by omega) (by omega))
  have HL := Lib.hid (length_laid (xs := xs) (f := f) (t := t) (at_ := at_) (n := k) (by rw [hx.len]; omega) (by rw [hx.len]; omega))
  have HX := Lib.hid hx.len
  have HB := Lib.hid bW
  have HS := Lib.hid sW
  have p0 := X0.cell 0 _ rfl
  have p1 := X0.cell 1 _ rfl
  have p2 := X0.cell 2 _ rfl
  have p3 := X0.cell 3 _ rfl
  have XX := Lib.hid X0
  have ZZ := Lib.hid Z0
  clear X0 Z0 hx hc hN s0 s1 hf ht hk bW sW
  have HW := Lib.hid hW.symm
  clear hW
  go_enter Try.func42, Try.ntmps42
  go_wp2_with fail
  rw [HW.out]
  refine HC.out.mono ?_
  rintro e w5 ⟨b', cap, rfl, r5, b5, hcap, hg⟩
  have X6 := (XX.out.below b5).below (below1 w5 (.cells #[.slice (some ⟨b', 0, none⟩) N cap, .int .i64 (st + (k : Int))] 35))
  have Z6 := (ZZ.out.below b5).below (below1 w5 (.cells #[.slice (some ⟨b', 0, none⟩) N cap, .int .i64 (st + (k : Int))] 35))
  have F6 : Hid (MF w (w5.alloc (.cells #[.slice (some ⟨b', 0, none⟩) N cap, .int .i64 (st + (k : Int))] 35)) b N b' 0 cap (laid xs f t at_ k)) := Lib.hid
    ⟨(r5.below (below1 w5 _)).all (by rw [← HX.out]; exact HL.out), hcap, belowT (belowT HB.out b5) (below1 w5 _), Or.inr (by have := HS.out; omega)⟩
  have HG := Lib.hid hg
  have x0 := X6.cell 0 _ rfl
  have x1 := X6.cell 1 _ rfl
  have x2 := X6.cell 2 _ rfl
  have x3 := X6.cell 3 _ rfl
  have x4 := X6.cell 4 _ rfl
  have x5 := X6.cell 5 _ rfl
  have u0 := X6.free 0 (by simp)
  have u1 := X6.free 1 (by simp)
  have z0 := Z6.cell 0 _ rfl
  have z1 := Z6.cell 1 _ rfl
  have z2 := Z6.cell 2 _ rfl
  have z3 := Z6.cell 3 _ rfl
  have z4 := Z6.cell 4 _ rfl
  have z5 := Z6.cell 5 _ rfl
  have y0 := Z6.free 0 (by simp)
  have y1 := Z6.free 1 (by simp)
  have y2 := Z6.free 2 (by simp)
  have y3 := Z6.free 3 (by simp)
  have y4 := Z6.free 4 (by simp)
  have y5 := Z6.free 5 (by simp)
  clear p0 p1 p2 p3 r5 b5 hcap hg X6 Z6 HC
  go_wp2
  refine bodyPost_ret (v := .agg #[.slice (some ⟨b', 0, none⟩) N cap, .int .i64 (st + (k : Int)), .int .i64 (f : Int), .int .i64 (t : Int), .int .i64 s, .int .i64 g]) (by simp [results, Try.results42, go_sem, z0, z1, z2, z3, z4, z5]) rfl ?_
  refine ⟨b', 0, cap, rfl, F6.out.put (S := fun i => i = w.heap.size ∨ i = w.heap.size + 1) ?_ (fun i hi => by have h1 := HG.out; have h2 := HS.out; omega)⟩
  repeat' (with_reducible refine But.setCell ?_ ?_ _)
  all_goals first | with_reducible exact But.refl _ _ | (intro _; first | with_reducible exact Or.inl rfl | with_reducible exact Or.inr rfl)
end
end Go.Proofs.Ytadljlkflmodiaa
