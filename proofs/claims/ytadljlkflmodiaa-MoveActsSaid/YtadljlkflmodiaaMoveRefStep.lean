/-
  The document's own answers for package move (almeryref15): Step, Wrote: each met by a contract.
-/
import Derived.Test.YtadljlkflmodiaaMoveRef
namespace Go.Proofs.Ytadljlkflmodiaa
open Go.ChangeShapes Go.WideShapes Go.ChangeAt Go.RowKit

section
variable {w : World} {b o N c : Nat} {st : Int} {f t s g : Nat} {xs : List Int}
theorem refSome_any (at_ k : Nat) (n : Int) (hx : Bytes w w.heap.size (some ⟨b, o, none⟩) N xs) (hc : N ≤ c) (hN : N ≤ 4194304) (s0 : 0 ≤ st) (s1 : st ≤ 1000000) (hf : f + at_ + k ≤ N) (ht : t + at_ + k ≤ N) (hk : (k : Int) = max 0 n) :
    Calls Try.prog 42 #[.agg #[.slice (some ⟨b, o, none⟩) N c, .int .i64 st, .int .i64 (f : Int), .int .i64 (t : Int), .int .i64 (s : Int), .int .i64 (g : Int)], .int .i64 (at_ : Int), .int .i64 n] w
      fun e w' => ∃ b' o' c', e = .returned (.agg #[.slice (some ⟨b', o', none⟩) N c', .int .i64 (st + k), .int .i64 (f : Int), .int .i64 (t : Int), .int .i64 (s : Int), .int .i64 (g : Int)]) ∧ MF w w' b N b' o' c' (laid xs f t at_ k) := by
  by_cases h : n < 1
  · obtain rfl : k = 0 := by omega
    refine (refSome_none hx hc at_ n h).mono ?_
    rintro e w' ⟨rfl, hm⟩
    rw [laid_zero (by rw [hx.len]; omega)]
    exact ⟨b, o, c, by simp, hm⟩
  · obtain rfl : n = (k : Int) := by omega
    exact refSome_ok f t at_ k hx hc hN s0 s1 hf ht (by omega)

theorem refStep_any (n : Int) (hx : Bytes w w.heap.size (some ⟨b, o, none⟩) N xs) (hc : N ≤ c) (hN : N ≤ 4194304) (s0 : 0 ≤ st) (s1 : st ≤ 1000000) (hf : f + s ≤ N) (ht : t + s ≤ N) (hg : g ≤ s) :
    Calls Try.prog 34 #[.agg #[.slice (some ⟨b, o, none⟩) N c, .int .i64 st, .int .i64 (f : Int), .int .i64 (t : Int), .int .i64 (s : Int), .int .i64 (g : Int)], .int .i64 n] w
      fun e w' => ∃ b' o' c', e = .returned (.tuple #[.agg #[.slice (some ⟨b', o', none⟩) N c', .int .i64 (st + goes s g n), .int .i64 (f : Int), .int .i64 (t : Int), .int .i64 (s : Int), .int .i64 ((g + goes s g n : Nat) : Int)], .int .i64 (goes s g n : Int)]) ∧ MF w w' b N b' o' c' (laid xs f t g (goes s g n)) := by
  have hw : IntKind.i64.wrap ((s : Int) - (g : Int)) = (s : Int) - (g : Int) := IntWalk.i64_in _ (by omega)
  have hle := goes_le hg n
  have hgi := goes_int (s := s) (g := g) n
  generalize goes s g n = G at hle hgi ⊢
  by_cases h1 : min n ((s : Int) - (g : Int)) < 1
  · obtain rfl : G = 0 := by omega
    have d : decide (min n ((s : Int) - (g : Int)) < 1) = true := by simpa using h1
    have HE : Hid (∀ o1 o2 : Obj, MF w ((w.alloc o1).alloc o2) b N b o c (laid xs f t g 0)) := Lib.hid (fun o1 o2 => by
      rw [laid_zero (by rw [hx.len]; omega)]
      exact ⟨hx.on (below2 w o1 o2), hc, below2 w o1 o2, Or.inl rfl⟩)
    clear hx hc h1 hgi hle hN
    go_enter Try.func34, Try.ntmps34
    go_wp2
    refine bodyPost_ret (v := .tuple #[.agg #[.slice (some ⟨b, o, none⟩) N c, .int .i64 st, .int .i64 (f : Int), .int .i64 (t : Int), .int .i64 (s : Int), .int .i64 (g : Int)], .int .i64 0]) (by simp [results, Try.results34, go_sem]) rfl ?_
    exact ⟨b, o, c, by simp, HE.out _ _⟩
  · have hm : min n ((s : Int) - (g : Int)) = (G : Int) := by omega
    have d : decide ((G : Int) < 1) = false := by rw [decide_eq_false_iff_not]; omega
    have dn : decide (G < 1) = false := by simp; omega
    have hw2 : IntKind.i64.wrap ((g : Int) + (G : Int)) = (g : Int) + (G : Int) := IntWalk.i64_in _ (by omega)
    obtain ⟨W, hW⟩ : ∃ W : World, W = ((w.alloc (.cells #[.slice (some ⟨b, o, none⟩) N c, .int .i64 st, .int .i64 (f : Int), .int .i64 (t : Int), .int .i64 (s : Int), .int .i64 (g : Int)] 43)).alloc (.cells #[.slice none 0 0, .int .i64 0, .int .i64 0, .int .i64 0, .int .i64 0, .int .i64 0] 43)) := ⟨_, rfl⟩
    have bW : Below w.heap.size w W := by rw [hW]; exact below2 w _ _
    have sW : W.heap.size = w.heap.size + 2 := by rw [hW]; simp
    have X0 : Cs W w.heap.size [.slice (some ⟨b, o, none⟩) N c, .int .i64 st, .int .i64 (f : Int), .int .i64 (t : Int), .int .i64 (s : Int), .int .i64 (g : Int)] := by rw [hW]; exact (Cs.new w _ _ rfl).below (below1 _ _)
    have Z0 : Cs W (w.heap.size + 1) [.slice none 0 0, .int .i64 0, .int .i64 0, .int .i64 0, .int .i64 0, .int .i64 0] := by rw [hW]; exact (Cs.new _ _ _ rfl).at_ (by simp)
    have HC := Lib.hid (refSome_any (f := f) (t := t) (s := s) (g := g) g G (G : Int) (hx.on bW) hc hN s0 s1 (by omega) (by omega) (by omega))
    have HB := Lib.hid bW
    have HS := Lib.hid sW
    have XX := Lib.hid X0
    have ZZ := Lib.hid Z0
    have HBL := Lib.hid (hx.block_lt (by omega))
    clear X0 Z0 hx hc hN s0 s1 hf ht bW sW hgi hle h1
    have HW := Lib.hid hW.symm
    clear hW
    go_enter Try.func34, Try.ntmps34
    go_wp2_with fail
    rw [HW.out]
    refine HC.out.mono ?_
    rintro e w5 ⟨b', o', cap, rfl, h5⟩
    have X6 := fun o : Obj => (XX.out.below h5.below).below (below1 w5 o)
    have Z6 := fun o : Obj => (ZZ.out.below h5.below).below (below1 w5 o)
    have H5 := Lib.hid h5
    have SZ : Hid (w.heap.size + 2 ≤ w5.heap.size) := Lib.hid (by have := h5.below.size; have := HS.out; omega)
    have hne : ¬ w.heap.size + 1 = w5.heap.size := by have := SZ.out; omega
    have hne2 : ¬ w.heap.size = w5.heap.size := by have := SZ.out; omega
    have x5 := fun o : Obj => (X6 o).cell 5 _ rfl
    have z0 := fun o : Obj => (Z6 o).cell 0 _ rfl
    have z1 := fun o : Obj => (Z6 o).cell 1 _ rfl
    have z2 := fun o : Obj => (Z6 o).cell 2 _ rfl
    have z3 := fun o : Obj => (Z6 o).cell 3 _ rfl
    have z4 := fun o : Obj => (Z6 o).cell 4 _ rfl
    have z5 := fun o : Obj => (Z6 o).cell 5 _ rfl
    have y0 := fun o : Obj => (Z6 o).free 0 (by simp)
    have y1 := fun o : Obj => (Z6 o).free 1 (by simp)
    have y2 := fun o : Obj => (Z6 o).free 2 (by simp)
    have y3 := fun o : Obj => (Z6 o).free 3 (by simp)
    have y4 := fun o : Obj => (Z6 o).free 4 (by simp)
    have y5 := fun o : Obj => (Z6 o).free 5 (by simp)
    clear h5 X6 Z6 HC
    go_wp2
    refine bodyPost_ret (v := .tuple #[.agg #[.slice (some ⟨b', o', none⟩) N cap, .int .i64 (st + (G : Int)), .int .i64 (f : Int), .int .i64 (t : Int), .int .i64 (s : Int), .int .i64 ((g : Int) + (G : Int))], .int .i64 (G : Int)]) (by simp [results, Try.results34, go_sem, z0, z1, z2, z3, z4, z5]) rfl ?_
    have F5 := (H5.out.ahead HB.out).more6 (.cells #[.slice (some ⟨b', o', none⟩) N cap, .int .i64 (st + (G : Int)), .int .i64 (f : Int), .int .i64 (t : Int), .int .i64 (s : Int), .int .i64 ((g : Int) + (G : Int))] 43)
    have hb1 : b' ≠ w.heap.size + 1 := by have := HBL.out; have := HS.out; rcases H5.out.from_ with e | e <;> omega
    refine ⟨b', o', cap, by simp, F5.put (S := fun i => i = w.heap.size + 1) ?_ (fun i hi => by omega)⟩
    repeat' (with_reducible refine But.setCell ?_ ?_ _)
    all_goals first | with_reducible exact But.refl _ _ | (intro _; with_reducible rfl)

theorem refWrote_ok (at_ n : Nat) (hx : Bytes w w.heap.size (some ⟨b, o, none⟩) N xs) (hc : N ≤ c) (hN : N ≤ 4194304) (s0 : 0 ≤ st) (s1 : st ≤ 1000000) (hf : f + s ≤ N) (ht : t + s ≤ N) (hg : g ≤ s) (hn : at_ + n ≤ s) (hs : 1 ≤ s) :
    Calls Try.prog 35 #[.agg #[.slice (some ⟨b, o, none⟩) N c, .int .i64 st, .int .i64 (f : Int), .int .i64 (t : Int), .int .i64 (s : Int), .int .i64 (g : Int)], .int .i64 (at_ : Int), .int .i64 (n : Int)] w
      fun e w' => ∃ b' o' c', e = .returned (.tuple #[.agg #[.slice (some ⟨b', o', none⟩) N c', .int .i64 (st + again g at_ n), .int .i64 (f : Int), .int .i64 (t : Int), .int .i64 (s : Int), .int .i64 (g : Int)], .int .i64 0]) ∧ MF w w' b N b' o' c' (laid xs f t at_ (again g at_ n)) := by
  have d1 : decide ((at_ : Int) < 0) = false := by simp
  have d2 : decide ((n : Int) < 0) = false := by simp
  have d3 : decide ((s : Int) < (n : Int)) = false := by simp; omega
  have d3n : decide (s < n) = false := by simp; omega
  have hw : IntKind.i64.wrap ((s : Int) - (n : Int)) = (s : Int) - (n : Int) := IntWalk.i64_in _ (by omega)
  have d4 : decide ((s : Int) - (n : Int) < (at_ : Int)) = false := by rw [decide_eq_false_iff_not]; omega
  have hw2 : IntKind.i64.wrap ((at_ : Int) + (n : Int)) = (at_ : Int) + (n : Int) := IntWalk.i64_in _ (by omega)
  have hw3 : IntKind.i64.wrap (min ((at_ : Int) + (n : Int)) (g : Int) - (at_ : Int)) = min ((at_ : Int) + (n : Int)) (g : Int) - (at_ : Int) := IntWalk.i64_in _ (by omega)
  have hk : ((again g at_ n : Nat) : Int) = max 0 (min ((at_ : Int) + (n : Int)) (g : Int) - (at_ : Int)) := by unfold again; omega
  have hr := again_le (g := g) hn
  generalize again g at_ n = k at hk hr ⊢
  obtain ⟨W, hW⟩ : ∃ W : World, W = ((w.alloc (.cells #[.slice (some ⟨b, o, none⟩) N c, .int .i64 st, .int .i64 (f : Int), .int .i64 (t : Int), .int .i64 (s : Int), .int .i64 (g : Int)] 43)).alloc (.cells #[.slice none 0 0, .int .i64 0, .int .i64 0, .int .i64 0, .int .i64 0, .int .i64 0] 43)) := ⟨_, rfl⟩
  have bW : Below w.heap.size w W := by rw [hW]; exact below2 w _ _
  have sW : W.heap.size = w.heap.size + 2 := by rw [hW]; simp
  have Z0 : Cs W (w.heap.size + 1) [.slice none 0 0, .int .i64 0, .int .i64 0, .int .i64 0, .int .i64 0, .int .i64 0] := by rw [hW]; exact (Cs.new _ _ _ rfl).at_ (by simp)
  have HC := Lib.hid (refSome_any (f := f) (t := t) (s := s) (g := g) at_ k (min ((at_ : Int) + (n : Int)) (g : Int) - (at_ : Int)) (hx.on bW) hc hN s0 s1 (by omega) (by omega) hk)
  have HB := Lib.hid bW
  have HS := Lib.hid sW
  have ZZ := Lib.hid Z0
  have HBL := Lib.hid (hx.block_lt (by omega))
  clear Z0 hx hc hN s0 s1 hf ht bW sW hk hr hn hs hg
  have HW := Lib.hid hW.symm
  clear hW
  go_enter Try.func35, Try.ntmps35
  go_wp2_with fail
  rw [HW.out]
  refine HC.out.mono ?_
  rintro e w5 ⟨b', o', cap, rfl, h5⟩
  have Z6 := ZZ.out.below h5.below
  have H5 := Lib.hid h5
  have z0 := Z6.cell 0 _ rfl
  have z1 := Z6.cell 1 _ rfl
  have z2 := Z6.cell 2 _ rfl
  have z3 := Z6.cell 3 _ rfl
  have z4 := Z6.cell 4 _ rfl
  have z5 := Z6.cell 5 _ rfl
  have y0 := Z6.free 0 (by simp)
  have y1 := Z6.free 1 (by simp)
  have y2 := Z6.free 2 (by simp)
  have y3 := Z6.free 3 (by simp)
  have y4 := Z6.free 4 (by simp)
  have y5 := Z6.free 5 (by simp)
  clear h5 Z6 HC
  go_wp2
  refine bodyPost_ret (v := .tuple #[.agg #[.slice (some ⟨b', o', none⟩) N cap, .int .i64 (st + (k : Int)), .int .i64 (f : Int), .int .i64 (t : Int), .int .i64 (s : Int), .int .i64 (g : Int)], .int .i64 0]) (by simp [results, Try.results35, go_sem, z0, z1, z2, z3, z4, z5]) rfl ?_
  have hb1 : b' ≠ w.heap.size + 1 := by have := HBL.out; have := HS.out; rcases H5.out.from_ with e | e <;> omega
  refine ⟨b', o', cap, by simp, (H5.out.ahead HB.out).put (S := fun i => i = w.heap.size + 1) ?_ (fun i hi => by omega)⟩
  repeat' (with_reducible refine But.setCell ?_ ?_ _)
  all_goals first | with_reducible exact But.refl _ _ | (intro _; with_reducible rfl)
end
end Go.Proofs.Ytadljlkflmodiaa
