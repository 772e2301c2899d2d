/-
  almerylaw03.ConfLess returns true for every layout and every byte, and all memory that was there is as it was. No condition.
-/
import Derived.Test.YtkdnbaafdhicjaaRows
import Derived.WalkKit
import Derived.ProofKit
import Derived.OpenShut
import Derived.Test.YtkdnbaafdhicjaaConfAwake
import Derived.Test.YtkdnbaafdhicjaaConfRefMay
import Derived.Test.YtkdnbaafdhicjaaConfOpen
import Derived.Test.YtkdnbaafdhicjaaAppImp
import Derived.ShutString
import Derived.ChangeOld
import Derived.Below
namespace Go.Proofs.Ytkdnbaafdhicjaa.confLess
open Go.ChangeShapes Go.WideShapes Go.ChangeAt Go.RowKit
open Go.ChangeMaps (open_string shut_string)
set_option linter.unusedVariables false

theorem own : ownKnob Try.prog.godebug = none := by kernel_rfl
theorem laidOut : laidOutB Try.prog = true := by kernel_rfl

/-- What a layout that may be has. -/
structure May03 (c : Cf) : Prop where
  size : sizeB c.size = true
  classes : mayB c.xs c.size = true
  keep : keepB c.ks c.cn = true
  most : 1 ≤ c.most ∧ c.most ≤ large c.size
theorem may03 {c : Cf} (h : confB c = true) : May03 c := by
  simp only [confB, Bool.and_eq_true] at h
  exact ⟨h.1, h.2.2.1, h.2.2.2.1, inB_true.1 h.2.2.2.2.2.2.2⟩
theorem Ints.setCell {w : World} {B n : Nat} {a : Option Addr} {xs : List Int} (h : Ints w B a n xs) {p : Addr} (hp : B ≤ p.block) (u : Value) : Ints (w.setCell p u) B a n xs :=
  h.keep fun q hq => World.cell?_setCell_other w p q u (fun e => by subst e; omega)
theorem Ints.tail {w : World} {B n b o : Nat} {xs : List Int} (h : Ints w B (some ⟨b, o, none⟩) n xs) : Ints w B (some ⟨b, o + 1, none⟩) (n - 1) (xs.drop 1) := by
  have hl := h.len
  refine ⟨by simp [hl], by have := h.max; omega, fun x hx => h.2.2.1 x (List.mem_of_mem_drop hx), fun hn => ?_⟩
  obtain ⟨b', o', e, hb, hc⟩ := h.head (by omega)
  injection e with e
  injection e with e1 e2
  subst e1 e2
  refine ⟨b, o + 1, rfl, hb, fun k s hs => ?_⟩
  have := hc (1 + k) s (by rw [← List.getElem?_drop]; exact hs)
  rw [show o + 1 + k = o + (1 + k) by omega]; exact this
theorem Ints.last {w : World} {B n : Nat} {a : Option Addr} {xs : List Int} (h : Ints w B a n xs) (hn : n ≤ 1) (a' : Option Addr) : Ints w B a' (n - 1) (xs.drop 1) := by
  have hl := h.len
  exact ⟨by simp [hl], by have := h.max; omega, fun x hx => h.2.2.1 x (List.mem_of_mem_drop hx), fun hp => absurd hp (by omega)⟩
theorem ok_set {w : World} {B : Nat} {c : Cf} (h : c.Ok w B) {p : Addr} (hp : B ≤ p.block) (u : Value) : c.Ok (w.setCell p u) B :=
  { h with classes := Ints.setCell h.classes hp u, keep := Ints.setCell h.keep hp u }
theorem infoInt : (Try.prog.info? 3).map (fun i => (i.zero, i.size, i.bytes)) = some (some (.int .i64 0), 1, 8) := by kernel_rfl
theorem newsOf {w : World} {B n b o : Nat} {xs : List Int} (h : Ints w B (some ⟨b, o, none⟩) n xs) : ∀ (j : Nat) (u : Value), (xs.map (Value.int .i64))[j]? = some u → w.cell? ((⟨b, o, none⟩ : Addr).add j) = some u := by
  intro j u hu
  rw [List.getElem?_map] at hu
  cases hx : xs[j]? with
  | none => rw [hx] at hu; simp at hu
  | some x =>
    rw [hx] at hu
    simp at hu
    subst hu
    have hj := (List.getElem?_eq_some_iff.1 hx).1
    obtain ⟨b', o', e, _, hc⟩ := h.head (by have := h.len; omega)
    injection e with e
    injection e with e1 e2
    subst e1 e2
    have := hc j x hx
    by_cases h0 : j = 0
    · subst h0; simpa [Addr.add] using this
    · simpa [Addr.add, h0] using this
theorem newsOne {w : World} {g : Nat} {x : Value} (h : w.cell? ⟨g, 0, none⟩ = some x) : ∀ (j : Nat) (u : Value), [x][j]? = some u → w.cell? ((⟨g, 0, none⟩ : Addr).add j) = some u := by
  intro j u hu
  match j, hu with
  | 0, hu => simp at hu; subst hu; simpa [Addr.add] using h
theorem free_new (w : World) (cs : Array Value) (t : TypeId) (i : Nat) : (w.alloc (.cells cs t)).frozen? ⟨w.heap.size, i, none⟩ = false := by go_simp
theorem size_set (w : World) (p : Addr) (u : Value) : (w.setCell p u).heap.size = w.heap.size := by simp
theorem okFrom_over {page y : Int} (h : page < y) : ∀ (xs : List Int) (p : Int), okFrom page p (xs ++ [y]) = false
  | [], p => by simp [okFrom, show ¬ y ≤ page by omega]
  | x :: xs, p => by simp [okFrom, okFrom_over h xs x]
theorem ints_of_own {w : World} {base g cap : Nat} {e : TypeId} {n : Nat} {ts : List Int} (h : w.ownsRow base e 1 (.slice (some ⟨g, 0, none⟩) n cap) n (ts.map (Value.int .i64))) (hn : 0 < n) (hm : n ≤ 9223372036854775807)
    (hf : ∀ x ∈ ts, -9223372036854775808 ≤ x ∧ x ≤ 9223372036854775807) : Ints w w.heap.size (some ⟨g, 0, none⟩) n ts := by
  obtain ⟨g', cap', hv, hb, hg⟩ := h.form hn
  injection hv with hv
  injection hv with hv
  injection hv with hv
  subst hv
  have hlen : ts.length = n := by have := h.1; simpa using this
  refine ⟨hlen, hm, hf, fun _ => ⟨g, 0, rfl, hg, fun k s hs => ?_⟩⟩
  obtain ⟨hk, _⟩ := List.getElem?_eq_some_iff.1 hs
  have := h.cellAt k (by omega)
  rw [List.getElem?_map, hs] at this
  simpa using this
/-- Behind the append: a layout with one class more, that is greater than a page, may not be. -/
theorem app_close {c : Cf} {w w2 w5 : World} {g cap : Nat} (hc : c.Ok w w.heap.size) (m1 : 1 ≤ c.cn) (m2 : c.cn ≤ 16) (z1 : 64 ≤ c.size) (z2 : c.size ≤ 4096) (b2 : Below w.heap.size w w2) (b5 : Below w2.heap.size w2 w5) (x8 : w.heap.size < w2.heap.size)
    (ho : w5.ownsRow w2.heap.size 3 1 (.slice (some ⟨g, 0, none⟩) (c.cn + 1) cap) (c.cn + 1) (c.xs.map (Value.int .i64) ++ [.int .i64 (c.size + 8)])) :
    Calls Try.prog 10 #[.agg #[.int .i64 c.size, .int .i64 c.pages, .slice (some ⟨g, 0, none⟩) (c.cn + 1) cap, .slice c.ka c.kn c.kc, .int .i64 c.step, .int .i64 c.slots, .int .i64 c.gens, .int .i64 c.most]] (w5.setCell ⟨w.heap.size, 2, none⟩ (.slice (some ⟨g, 0, none⟩) (c.cn + 1) cap)) (IB 1 (w5.setCell ⟨w.heap.size, 2, none⟩ (.slice (some ⟨g, 0, none⟩) (c.cn + 1) cap))) ∧ Below w.heap.size w (w5.setCell ⟨w.heap.size, 2, none⟩ (.slice (some ⟨g, 0, none⟩) (c.cn + 1) cap)) := by
  have hb := belowT b2 b5
  have hb6 : Below w.heap.size w (w5.setCell ⟨w.heap.size, 2, none⟩ (.slice (some ⟨g, 0, none⟩) (c.cn + 1) cap)) := hb.setCell (Nat.le_refl _) _
  have ho' : (w5.setCell ⟨w.heap.size, 2, none⟩ (.slice (some ⟨g, 0, none⟩) (c.cn + 1) cap)).ownsRow w2.heap.size 3 1 (.slice (some ⟨g, 0, none⟩) (c.cn + 1) cap) (c.cn + 1) ((c.xs ++ [c.size + 8]).map (Value.int .i64)) := by
    rw [List.map_append]
    exact ownsRow_setCell_below ho (a := ⟨w.heap.size, 2, none⟩) x8 _
  have hI : Ints (w5.setCell ⟨w.heap.size, 2, none⟩ (.slice (some ⟨g, 0, none⟩) (c.cn + 1) cap)) (w5.setCell ⟨w.heap.size, 2, none⟩ (.slice (some ⟨g, 0, none⟩) (c.cn + 1) cap)).heap.size (some ⟨g, 0, none⟩) (c.cn + 1) (c.xs ++ [c.size + 8]) := ints_of_own ho' (by omega) (by omega) (by
    intro x hx
    rcases List.mem_append.1 hx with h | h
    · exact hc.classes.2.2.1 x h
    · simp at h; subst h; exact ⟨by omega, by omega⟩)
  have O6 := hc.on hb6
  have O7 : ({ c with ca := some ⟨g, 0, none⟩, cn := c.cn + 1, cc := cap, xs := c.xs ++ [c.size + 8] } : Cf).Ok (w5.setCell ⟨w.heap.size, 2, none⟩ (.slice (some ⟨g, 0, none⟩) (c.cn + 1) cap)) (w5.setCell ⟨w.heap.size, 2, none⟩ (.slice (some ⟨g, 0, none⟩) (c.cn + 1) cap)).heap.size := { O6 with classes := hI }
  have H := confMay_any _ _ O7
  rw [confMay_off (by simp [confB, mayB, okFrom_over (show c.size < c.size + 8 by omega)])] at H
  exact ⟨H, hb6⟩

/-! ### The walk -/
set_option maxRecDepth 100000 in
set_option maxHeartbeats 3200000 in
theorem walk (c : Cf) (n : Int) (w : World) (hc : c.Ok w w.heap.size) (hcc : c.cn ≤ c.cc) (hkc : c.kn ≤ c.kc) (hn : (Lit.int .u8 n).wf = true) :
    Calls Try.prog 6 #[.agg #[.int .i64 c.size, .int .i64 c.pages, .slice c.ca c.cn c.cc, .slice c.ka c.kn c.kc, .int .i64 c.step, .int .i64 c.slots, .int .i64 c.gens, .int .i64 c.most], .int .u8 n] w fun e w' => e = .returned (.bool true) ∧ Below w.heap.size w w' := by
  have B0 := Boxed.new w c
  have b0 := below1 w (.cells #[.int .i64 c.size, .int .i64 c.pages, .slice c.ca c.cn c.cc, .slice c.ka c.kn c.kc, .int .i64 c.step, .int .i64 c.slots, .int .i64 c.gens, .int .i64 c.most] 24)
  have O0 := hc.on b0
  have F0 := free_new w #[.int .i64 c.size, .int .i64 c.pages, .slice c.ca c.cn c.cc, .slice c.ka c.kn c.kc, .int .i64 c.step, .int .i64 c.slots, .int .i64 c.gens, .int .i64 c.most] 24
  have hn' : 0 ≤ n ∧ n ≤ 255 := by simpa [Lit.wf, IntKind.min, IntKind.max, IntKind.signed, IntKind.bits] using hn
  obtain ⟨n1, n2⟩ := hn'
  clear hn
  have HF0 := Lib.hid F0
  clear F0
  go_enter Try.func6, Try.ntmps6
  go_wp2_with fail
  refine (awake03_any _).mono ?_
  rintro e w1 ⟨rfl, f1⟩
  have B1 := B0.on f1
  have O1 := O0.on f1
  have b1 := belowT b0 f1
  have F1 : Hid (∀ i, w1.frozen? ⟨w.heap.size, i, none⟩ = false) := Lib.hid fun i => (f1.frozen (p := ⟨w.heap.size, i, none⟩) B0.lt).trans (HF0.out i)
  clear f1 B0 O0 b0 HF0
  have ⟨x0, x1, x2, x3, x4, x5, x6, x7, x8⟩ := B1
  have HM := refConfMay_any c w1 O1
  cases hB : confB c with
  | false =>
    rw [confMay_off hB] at HM
    have H := Lib.hid HM
    clear HM hB
    go_wp2_with fail
    refine H.out.mono ?_
    rintro e w2 ⟨rfl, f2⟩
    go_wp2
    go_ret
    exact ⟨rfl, belowT b1 f2⟩
  | true =>
    rw [confMay_on hB] at HM
    have H := Lib.hid HM
    have M := may03 hB
    clear HM hB
    have HLen := Lib.hid O1.classes.len
    have HLen2 := Lib.hid O1.keep.len
    have hm1 : 1 ≤ c.cn ∧ c.cn ≤ 16 := by
      have h1 := M.classes
      simp only [mayB, Bool.and_eq_true, decide_eq_true_eq] at h1
      have h2 := HLen.out
      omega
    obtain ⟨m1, m2⟩ := hm1
    have HKC : Hid (c.kn = c.cn) := Lib.hid (by have := (keepB_true M.keep).1; rw [HLen2.out] at this; exact this)
    obtain ⟨z1, z2, z3⟩ := sizeB_true.1 M.size
    have HZ := Lib.hid z3
    clear z3
    obtain ⟨lb1, lb2⟩ := large_bounds c.size
    go_wp2_with fail
    refine H.out.mono ?_
    rintro e w2 ⟨rfl, f2⟩
    have B2 := B1.on f2
    have b2 := belowT b1 f2
    have O2 : c.Ok w2 w.heap.size := hc.below b2
    have F2 : Hid (∀ i, w2.frozen? ⟨w.heap.size, i, none⟩ = false) := Lib.hid fun i => (f2.frozen (p := ⟨w.heap.size, i, none⟩) B1.lt).trans (F1.out i)
    clear f2 B1 O1 b1 x0 x1 x2 x3 x4 x5 x6 x7 H F1
    have ⟨x0, x1, x2, x3, x4, x5, x6, x7, x8'⟩ := B2
    have hr : n % 8 = 0 ∨ n % 8 = 1 ∨ n % 8 = 2 ∨ n % 8 = 3 ∨ n % 8 = 4 ∨ n % 8 = 5 ∨ n % 8 = 6 ∨ n % 8 = 7 := by omega
    rcases hr with hr | hr | hr | hr | hr | hr | hr | hr
    · have hr' : n.tmod 8 = 0 := by rw [Int.tmod_eq_emod_of_nonneg n1]; exact hr
      have fz := F2.out 0
      have e1 : confB { c with size := c.size + 4 } = false := by have : sizeB (c.size + 4) = false := (by simp only [sizeB]; rw [show (c.size + 4) % 8 = 4 by have := HZ.out; omega]; simp); simp [confB, this]
      have O' : ({ c with size := c.size + 4 } : Cf).Ok (w2.setCell ⟨w.heap.size, 0, none⟩ (.int .i64 (c.size + 4))) (w2.setCell ⟨w.heap.size, 0, none⟩ (.int .i64 (c.size + 4))).heap.size :=
        Cf.Ok.more { ok_set O2 (p := ⟨w.heap.size, 0, none⟩) (Nat.le_refl _) (.int .i64 (c.size + 4)) with size := ⟨by (simp only []; omega), by (simp only []; omega)⟩ } (by rw [size_set]; omega)
      have H3 := confMay_any _ _ O'
      rw [confMay_off e1] at H3
      dsimp only at H3
      have K3 := Lib.hid H3
      have b4 : Below w.heap.size w (w2.setCell ⟨w.heap.size, 0, none⟩ (.int .i64 (c.size + 4))) := b2.setCell (Nat.le_refl _) _
      clear H3 e1 O'
      go_wp2_with fail
      refine K3.out.mono ?_
      rintro e w4 ⟨rfl, f4⟩
      go_wp2
      go_ret
      exact ⟨rfl, belowT b4 f4⟩
    · have hr' : n.tmod 8 = 1 := by rw [Int.tmod_eq_emod_of_nonneg n1]; exact hr
      have fz := F2.out 1
      have e1 : confB { c with pages := 1025 } = false := by simp [confB, inB_high (show (1024 : Int) < 1025 by omega)]
      have O' : ({ c with pages := 1025 } : Cf).Ok (w2.setCell ⟨w.heap.size, 1, none⟩ (.int .i64 (1025))) (w2.setCell ⟨w.heap.size, 1, none⟩ (.int .i64 (1025))).heap.size :=
        Cf.Ok.more { ok_set O2 (p := ⟨w.heap.size, 1, none⟩) (Nat.le_refl _) (.int .i64 (1025)) with pages := ⟨by (simp only []; omega), by (simp only []; omega)⟩ } (by rw [size_set]; omega)
      have H3 := confMay_any _ _ O'
      rw [confMay_off e1] at H3
      dsimp only at H3
      have K3 := Lib.hid H3
      have b4 : Below w.heap.size w (w2.setCell ⟨w.heap.size, 1, none⟩ (.int .i64 (1025))) := b2.setCell (Nat.le_refl _) _
      clear H3 e1 O'
      go_wp2_with fail
      refine K3.out.mono ?_
      rintro e w4 ⟨rfl, f4⟩
      go_wp2
      go_ret
      exact ⟨rfl, belowT b4 f4⟩
    · have hr' : n.tmod 8 = 2 := by rw [Int.tmod_eq_emod_of_nonneg n1]; exact hr
      have fz := F2.out 2
      have HI := O2.classes
      generalize hca : c.ca = ca at *
      have HCA := Lib.hid hca
      clear hca
      obtain ⟨b, o, rfl, hb, hcell⟩ := HI.head (by omega)
      have HCell := Lib.hid hcell
      clear hcell
      have y1 : IntKind.i64.wrap (c.size + 8) = c.size + 8 := IntWalk.i64_in _ (by omega)
      obtain ⟨i0, hi, hz0, hz1, hz2⟩ := info_parts infoInt
      have hNl : Hid ((c.xs.map (Value.int .i64)).length = c.cn * 1) := Lib.hid (by simp [HLen.out])
      have hN1 : Hid (∀ u ∈ c.xs.map (Value.int .i64), u.oneCell' = true) := Lib.hid (by intro u hu; obtain ⟨x, _, rfl⟩ := List.mem_map.1 hu; rfl)
      have ownA : Hid ((w2.alloc (.cells #[] 3)).ownsRow w2.heap.size 3 1 (.slice (some ⟨w2.heap.size, 0, none⟩) 0 0) 0 []) := Lib.hid (World.ownsRow_lit w2 #[] 0 (Nat.le_refl _) (by unfold maxLen; omega) rfl)
      have ownB := Lib.hid (ownA.out.alloc (.cells #[.int .i64 (c.size + 8)] 3))
      have ownC : Hid (((w2.alloc (.cells #[.int .i64 (c.size + 8)] 3)).alloc (.cells #[] 3)).ownsRow w2.heap.size 3 1 (.slice (some ⟨w2.heap.size + 1, 0, none⟩) 0 0) 0 []) := Lib.hid (by
        have := World.ownsRow_lit (base := w2.heap.size) (e := 3) (size := 1) (w2.alloc (.cells #[.int .i64 (c.size + 8)] 3)) #[] 0 (by simp) (by unfold maxLen; omega) rfl
        simpa using this)
      have hP : Hid (0 < c.cn) := Lib.hid (by omega)
      have h63 : Hid (0 + c.cn ≤ maxLen) := Lib.hid (by unfold maxLen; omega)
      have h63' : Hid (c.cn + 1 ≤ maxLen) := Lib.hid (by unfold maxLen; omega)
      have h8 : Hid ((0 + c.cn) * 8 ≤ 140737488355328) := Lib.hid (by omega)
      have h8' : Hid ((c.cn + 1) * 8 ≤ 140737488355328) := Lib.hid (by omega)
      have hO1 : Hid (∀ u ∈ [Value.int .i64 (c.size + 8)], u.oneCell' = true) := Lib.hid (by simp [Value.oneCell'])
      go_wp2_with fail
      go_region_law (first
        | (refine step_append_lies _ ?_ (.tmp 28) (.tmp 30) _ ?_ w2.heap.size 3 i0 (.int .i64 0) 1 8 Try.underlying22 hi hz0 hz1 hz2 rfl Nat.one_pos (.slice (some ⟨w2.heap.size, 0, none⟩) 0 0) 0 [] ?_ ?_ ⟨b, o, none⟩ c.cn c.cc (c.xs.map (.int .i64)) ?_ hNl.out ?_ hN1.out hP.out h63.out h8.out ?_ _ rfl ?_
           · rfl
           · rfl
           · rfl
           · exact ownA.out
           · rfl
           · refine newsOf (B := w.heap.size) (n := c.cn) ?_
             repeat (first | exact HI | refine Ints.drew ?_ | refine Ints.alloc ?_ (by first | omega | (simp; done) | (simp; omega)) _)
           · first | omega | (simp; done) | (simp; omega)
           intro g1 cap1 w4 hown4 hgrow4 hat4 hlt4
           have hb4 : Below w2.heap.size w2 w4 := by
             refine Below.grown ?_ hgrow4 (by first | omega | (simp; done) | (simp; omega)) (fun k hk => by simp [Value.ownBlock] at hk; omega)
             repeat (first | exact Below.refl _ _ | refine belowD ?_ | refine Below.alloc ?_ (by first | omega | (simp; done) | (simp; omega)) _)
           have q0 : w4.cell? ⟨w.heap.size, 0, none⟩ = some (.int .i64 c.size) := (hb4.cell (p := ⟨w.heap.size, 0, none⟩) x8').trans x0
           have hg1 : w2.heap.size ≤ g1 := (hown4.lt g1 rfl).1
           rw [Nat.zero_add, List.nil_append] at hown4
           have HO4 := Lib.hid hown4
           clear hown4
           have hs4 := hb4.size
           skip
           clear hgrow4 hat4)
        | (refine step_append_lies _ ?_ (.tmp 28) (.tmp 30) _ ?_ w2.heap.size 3 i0 (.int .i64 0) 1 8 Try.underlying22 hi hz0 hz1 hz2 rfl Nat.one_pos (.slice (some ⟨w2.heap.size, 0, none⟩) 0 0) 0 [] ?_ ?_ ⟨b, o, none⟩ c.cn c.cc (c.xs.map (.int .i64)) ?_ hNl.out ?_ hN1.out hP.out h63.out h8.out ?_ _ rfl ?_
           · rfl
           · rfl
           · rfl
           · exact ownB.out
           · rfl
           · refine newsOf (B := w.heap.size) (n := c.cn) ?_
             repeat (first | exact HI | refine Ints.drew ?_ | refine Ints.alloc ?_ (by first | omega | (simp; done) | (simp; omega)) _)
           · first | omega | (simp; done) | (simp; omega)
           intro g1 cap1 w4 hown4 hgrow4 hat4 hlt4
           have hb4 : Below w2.heap.size w2 w4 := by
             refine Below.grown ?_ hgrow4 (by first | omega | (simp; done) | (simp; omega)) (fun k hk => by simp [Value.ownBlock] at hk; omega)
             repeat (first | exact Below.refl _ _ | refine belowD ?_ | refine Below.alloc ?_ (by first | omega | (simp; done) | (simp; omega)) _)
           have q0 : w4.cell? ⟨w.heap.size, 0, none⟩ = some (.int .i64 c.size) := (hb4.cell (p := ⟨w.heap.size, 0, none⟩) x8').trans x0
           have hg1 : w2.heap.size ≤ g1 := (hown4.lt g1 rfl).1
           rw [Nat.zero_add, List.nil_append] at hown4
           have HO4 := Lib.hid hown4
           clear hown4
           have hs4 := hb4.size
           have hS : w4.cell? ⟨w2.heap.size + 1, 0, none⟩ = some (.int .i64 (c.size + 8)) := hgrow4.cell (by go_simp) (by simp [Value.ownBlock])
           clear hgrow4 hat4)
        | (refine step_append_lies _ ?_ (.tmp 28) (.tmp 30) _ ?_ w2.heap.size 3 i0 (.int .i64 0) 1 8 Try.underlying22 hi hz0 hz1 hz2 rfl Nat.one_pos (.slice (some ⟨w2.heap.size + 1, 0, none⟩) 0 0) 0 [] ?_ ?_ ⟨b, o, none⟩ c.cn c.cc (c.xs.map (.int .i64)) ?_ hNl.out ?_ hN1.out hP.out h63.out h8.out ?_ _ rfl ?_
           · rfl
           · rfl
           · rfl
           · exact ownC.out
           · rfl
           · refine newsOf (B := w.heap.size) (n := c.cn) ?_
             repeat (first | exact HI | refine Ints.drew ?_ | refine Ints.alloc ?_ (by first | omega | (simp; done) | (simp; omega)) _)
           · first | omega | (simp; done) | (simp; omega)
           intro g1 cap1 w4 hown4 hgrow4 hat4 hlt4
           have hb4 : Below w2.heap.size w2 w4 := by
             refine Below.grown ?_ hgrow4 (by first | omega | (simp; done) | (simp; omega)) (fun k hk => by simp [Value.ownBlock] at hk; omega)
             repeat (first | exact Below.refl _ _ | refine belowD ?_ | refine Below.alloc ?_ (by first | omega | (simp; done) | (simp; omega)) _)
           have q0 : w4.cell? ⟨w.heap.size, 0, none⟩ = some (.int .i64 c.size) := (hb4.cell (p := ⟨w.heap.size, 0, none⟩) x8').trans x0
           have hg1 : w2.heap.size ≤ g1 := (hown4.lt g1 rfl).1
           rw [Nat.zero_add, List.nil_append] at hown4
           have HO4 := Lib.hid hown4
           clear hown4
           have hs4 := hb4.size
           have hS : w4.cell? ⟨w2.heap.size, 0, none⟩ = some (.int .i64 (c.size + 8)) := hgrow4.cell (by go_simp) (by simp [Value.ownBlock])
           clear hgrow4 hat4)
        | (refine step_append_lies _ ?_ (.tmp 31) (.tmp 35) _ ?_ w2.heap.size 3 i0 (.int .i64 0) 1 8 Try.underlying22 hi hz0 hz1 hz2 rfl Nat.one_pos (.slice (some ⟨g1, 0, none⟩) c.cn cap1) c.cn (c.xs.map (.int .i64)) ?_ ?_ ⟨w2.heap.size + 1, 0, none⟩ 1 1 [.int .i64 (c.size + 8)] ?_ rfl ?_ hO1.out Nat.one_pos h63'.out h8'.out ?_ _ rfl ?_
           · rfl
           · rfl
           · rfl
           · exact HO4.out
           · rfl
           · exact newsOne hS
           · first | omega | (simp; done) | (simp; omega)
           intro g2 cap2 w5 hown5 hgrow5 hat5 hlt5
           have hb5 : Below w2.heap.size w2 w5 := by
             refine Below.grown ?_ hgrow5 (by first | omega | (simp; done) | (simp; omega)) (fun k hk => by simp [Value.ownBlock] at hk; omega)
             repeat (first | exact hb4 | refine belowD ?_ | refine Below.alloc ?_ hb4.size _)
           have fz5 : w5.frozen? ⟨w.heap.size, 2, none⟩ = false := (hb5.frozen (p := ⟨w.heap.size, 2, none⟩) x8').trans fz
           have r2 : w5.cell? ⟨w.heap.size, 2, none⟩ = some (.slice (some ⟨b, o, none⟩) c.cn c.cc) := (hb5.cell (p := ⟨w.heap.size, 2, none⟩) x8').trans x2
           have HO5 := Lib.hid hown5
           clear hgrow5 hat5 q0 hown5)
        | (refine step_append_lies _ ?_ (.tmp 31) (.tmp 35) _ ?_ w2.heap.size 3 i0 (.int .i64 0) 1 8 Try.underlying22 hi hz0 hz1 hz2 rfl Nat.one_pos (.slice (some ⟨g1, 0, none⟩) c.cn cap1) c.cn (c.xs.map (.int .i64)) ?_ ?_ ⟨w2.heap.size, 0, none⟩ 1 1 [.int .i64 (c.size + 8)] ?_ rfl ?_ hO1.out Nat.one_pos h63'.out h8'.out ?_ _ rfl ?_
           · rfl
           · rfl
           · rfl
           · exact HO4.out
           · rfl
           · exact newsOne hS
           · first | omega | (simp; done) | (simp; omega)
           intro g2 cap2 w5 hown5 hgrow5 hat5 hlt5
           have hb5 : Below w2.heap.size w2 w5 := by
             refine Below.grown ?_ hgrow5 (by first | omega | (simp; done) | (simp; omega)) (fun k hk => by simp [Value.ownBlock] at hk; omega)
             repeat (first | exact hb4 | refine belowD ?_ | refine Below.alloc ?_ hb4.size _)
           have fz5 : w5.frozen? ⟨w.heap.size, 2, none⟩ = false := (hb5.frozen (p := ⟨w.heap.size, 2, none⟩) x8').trans fz
           have r2 : w5.cell? ⟨w.heap.size, 2, none⟩ = some (.slice (some ⟨b, o, none⟩) c.cn c.cc) := (hb5.cell (p := ⟨w.heap.size, 2, none⟩) x8').trans x2
           have HO5 := Lib.hid hown5
           clear hgrow5 hat5 q0 hown5)
        | (refine step_append_lies _ ?_ (.tmp 31) (.tmp 35) _ ?_ w2.heap.size 3 i0 (.int .i64 0) 1 8 Try.underlying22 hi hz0 hz1 hz2 rfl Nat.one_pos (.slice (some ⟨g1, 0, none⟩) c.cn cap1) c.cn (c.xs.map (.int .i64)) ?_ ?_ ⟨w4.heap.size, 0, none⟩ 1 1 [.int .i64 (c.size + 8)] ?_ rfl ?_ hO1.out Nat.one_pos h63'.out h8'.out ?_ _ rfl ?_
           · rfl
           · rfl
           · rfl
           · exact HO4.out.alloc _
           · rfl
           · exact newsOne (by go_simp)
           · first | omega | (simp; done) | (simp; omega)
           intro g2 cap2 w5 hown5 hgrow5 hat5 hlt5
           have hb5 : Below w2.heap.size w2 w5 := by
             refine Below.grown ?_ hgrow5 (by first | omega | (simp; done) | (simp; omega)) (fun k hk => by simp [Value.ownBlock] at hk; omega)
             repeat (first | exact hb4 | refine belowD ?_ | refine Below.alloc ?_ hb4.size _)
           have fz5 : w5.frozen? ⟨w.heap.size, 2, none⟩ = false := (hb5.frozen (p := ⟨w.heap.size, 2, none⟩) x8').trans fz
           have r2 : w5.cell? ⟨w.heap.size, 2, none⟩ = some (.slice (some ⟨b, o, none⟩) c.cn c.cc) := (hb5.cell (p := ⟨w.heap.size, 2, none⟩) x8').trans x2
           have HO5 := Lib.hid hown5
           clear hgrow5 hat5 q0 hown5))
      all_goals
        obtain ⟨KC, b6⟩ := app_close (cap := cap2) hc m1 m2 z1 z2 b2 hb5 x8' HO5.out
        have K6 := Lib.hid KC
        have r0 := (hb5.cell (p := ⟨w.heap.size, 0, none⟩) x8').trans x0
        have r1 := (hb5.cell (p := ⟨w.heap.size, 1, none⟩) x8').trans x1
        have r3 := (hb5.cell (p := ⟨w.heap.size, 3, none⟩) x8').trans x3
        have r4 := (hb5.cell (p := ⟨w.heap.size, 4, none⟩) x8').trans x4
        have r5 := (hb5.cell (p := ⟨w.heap.size, 5, none⟩) x8').trans x5
        have r6 := (hb5.cell (p := ⟨w.heap.size, 6, none⟩) x8').trans x6
        have r7 := (hb5.cell (p := ⟨w.heap.size, 7, none⟩) x8').trans x7
        clear KC hb5 HO5 x0 x1 x2 x3 x4 x5 x6 x7
        go_wp2_with fail
        refine K6.out.mono ?_
        rintro e w6 ⟨rfl, f6⟩
        go_wp2
        go_ret
        exact ⟨rfl, belowT b6 f6⟩
    · have hr' : n.tmod 8 = 3 := by rw [Int.tmod_eq_emod_of_nonneg n1]; exact hr
      have fz := F2.out 3
      have HI := O2.keep
      have hkm := HI.max
      generalize hka : c.ka = ka at *
      have HKA := Lib.hid hka
      clear hka
      have hkp : 0 < c.kn := by have := HKC.out; omega
      obtain ⟨b, o, rfl, hb, hcell⟩ := HI.head hkp
      have HCell := Lib.hid hcell
      clear hcell
      by_cases h1 : c.kc = 1
      · have h2 : Hid (c.kn ≤ 1) := Lib.hid (by omega)
        have e1 : confB { c with ka := some ⟨b, o, none⟩, kn := c.kn - 1, kc := 0, ks := c.ks.drop 1 } = false := by rw [confB, keepB_len (by simp only [List.length_drop]; have h1 := HLen2.out; have h2 := HKC.out; omega)]; simp
        have O' : ({ c with ka := some ⟨b, o, none⟩, kn := c.kn - 1, kc := 0, ks := c.ks.drop 1 } : Cf).Ok (w2.setCell ⟨w.heap.size, 3, none⟩ (.slice (some ⟨b, o, none⟩) (c.kn - 1) (0))) (w2.setCell ⟨w.heap.size, 3, none⟩ (.slice (some ⟨b, o, none⟩) (c.kn - 1) (0))).heap.size :=
          Cf.Ok.more { ok_set O2 (p := ⟨w.heap.size, 3, none⟩) (Nat.le_refl _) (.slice (some ⟨b, o, none⟩) (c.kn - 1) (0)) with keep := Ints.setCell (Ints.last HI h2.out _) (p := ⟨w.heap.size, 3, none⟩) (Nat.le_refl _) (.slice (some ⟨b, o, none⟩) (c.kn - 1) (0)) } (by rw [size_set]; omega)
        have H3 := confMay_any _ _ O'
        rw [confMay_off e1] at H3
        dsimp only at H3
        have K3 := Lib.hid H3
        have b4 : Below w.heap.size w (w2.setCell ⟨w.heap.size, 3, none⟩ (.slice (some ⟨b, o, none⟩) (c.kn - 1) (0))) := b2.setCell (Nat.le_refl _) _
        clear H3 e1 O'
        go_wp2_with fail
        refine K3.out.mono ?_
        rintro e w4 ⟨rfl, f4⟩
        go_wp2
        go_ret
        exact ⟨rfl, belowT b4 f4⟩
      · have e1 : confB { c with ka := some ⟨b, o + 1, none⟩, kn := c.kn - 1, kc := c.kc - 1, ks := c.ks.drop 1 } = false := by rw [confB, keepB_len (by simp only [List.length_drop]; have h1 := HLen2.out; have h2 := HKC.out; omega)]; simp
        have O' : ({ c with ka := some ⟨b, o + 1, none⟩, kn := c.kn - 1, kc := c.kc - 1, ks := c.ks.drop 1 } : Cf).Ok (w2.setCell ⟨w.heap.size, 3, none⟩ (.slice (some ⟨b, o + 1, none⟩) (c.kn - 1) (c.kc - 1))) (w2.setCell ⟨w.heap.size, 3, none⟩ (.slice (some ⟨b, o + 1, none⟩) (c.kn - 1) (c.kc - 1))).heap.size :=
          Cf.Ok.more { ok_set O2 (p := ⟨w.heap.size, 3, none⟩) (Nat.le_refl _) (.slice (some ⟨b, o + 1, none⟩) (c.kn - 1) (c.kc - 1)) with keep := Ints.setCell (Ints.tail HI) (p := ⟨w.heap.size, 3, none⟩) (Nat.le_refl _) (.slice (some ⟨b, o + 1, none⟩) (c.kn - 1) (c.kc - 1)) } (by rw [size_set]; omega)
        have H3 := confMay_any _ _ O'
        rw [confMay_off e1] at H3
        dsimp only at H3
        have K3 := Lib.hid H3
        have b4 : Below w.heap.size w (w2.setCell ⟨w.heap.size, 3, none⟩ (.slice (some ⟨b, o + 1, none⟩) (c.kn - 1) (c.kc - 1))) := b2.setCell (Nat.le_refl _) _
        clear H3 e1 O'
        go_wp2_with fail
        refine K3.out.mono ?_
        rintro e w4 ⟨rfl, f4⟩
        go_wp2
        go_ret
        exact ⟨rfl, belowT b4 f4⟩
    · have hr' : n.tmod 8 = 4 := by rw [Int.tmod_eq_emod_of_nonneg n1]; exact hr
      have fz := F2.out 4
      have e1 : confB { c with step := 0 } = false := by simp [confB, inB_low (show (0 : Int) < 1 by omega)]
      have O' : ({ c with step := 0 } : Cf).Ok (w2.setCell ⟨w.heap.size, 4, none⟩ (.int .i64 (0))) (w2.setCell ⟨w.heap.size, 4, none⟩ (.int .i64 (0))).heap.size :=
        Cf.Ok.more { ok_set O2 (p := ⟨w.heap.size, 4, none⟩) (Nat.le_refl _) (.int .i64 (0)) with step := ⟨by (simp only []; omega), by (simp only []; omega)⟩ } (by rw [size_set]; omega)
      have H3 := confMay_any _ _ O'
      rw [confMay_off e1] at H3
      dsimp only at H3
      have K3 := Lib.hid H3
      have b4 : Below w.heap.size w (w2.setCell ⟨w.heap.size, 4, none⟩ (.int .i64 (0))) := b2.setCell (Nat.le_refl _) _
      clear H3 e1 O'
      go_wp2_with fail
      refine K3.out.mono ?_
      rintro e w4 ⟨rfl, f4⟩
      go_wp2
      go_ret
      exact ⟨rfl, belowT b4 f4⟩
    · have hr' : n.tmod 8 = 5 := by rw [Int.tmod_eq_emod_of_nonneg n1]; exact hr
      have fz := F2.out 5
      have e1 : confB { c with slots := 4097 } = false := by simp [confB, inB_high (show (4096 : Int) < 4097 by omega)]
      have O' : ({ c with slots := 4097 } : Cf).Ok (w2.setCell ⟨w.heap.size, 5, none⟩ (.int .i64 (4097))) (w2.setCell ⟨w.heap.size, 5, none⟩ (.int .i64 (4097))).heap.size :=
        Cf.Ok.more { ok_set O2 (p := ⟨w.heap.size, 5, none⟩) (Nat.le_refl _) (.int .i64 (4097)) with slots := ⟨by (simp only []; omega), by (simp only []; omega)⟩ } (by rw [size_set]; omega)
      have H3 := confMay_any _ _ O'
      rw [confMay_off e1] at H3
      dsimp only at H3
      have K3 := Lib.hid H3
      have b4 : Below w.heap.size w (w2.setCell ⟨w.heap.size, 5, none⟩ (.int .i64 (4097))) := b2.setCell (Nat.le_refl _) _
      clear H3 e1 O'
      go_wp2_with fail
      refine K3.out.mono ?_
      rintro e w4 ⟨rfl, f4⟩
      go_wp2
      go_ret
      exact ⟨rfl, belowT b4 f4⟩
    · have hr' : n.tmod 8 = 6 := by rw [Int.tmod_eq_emod_of_nonneg n1]; exact hr
      have fz := F2.out 6
      have e1 : confB { c with gens := 0 } = false := by simp [confB, inB_low (show (0 : Int) < 1 by omega)]
      have O' : ({ c with gens := 0 } : Cf).Ok (w2.setCell ⟨w.heap.size, 6, none⟩ (.int .i64 (0))) (w2.setCell ⟨w.heap.size, 6, none⟩ (.int .i64 (0))).heap.size :=
        Cf.Ok.more { ok_set O2 (p := ⟨w.heap.size, 6, none⟩) (Nat.le_refl _) (.int .i64 (0)) with gens := ⟨by (simp only []; omega), by (simp only []; omega)⟩ } (by rw [size_set]; omega)
      have H3 := confMay_any _ _ O'
      rw [confMay_off e1] at H3
      dsimp only at H3
      have K3 := Lib.hid H3
      have b4 : Below w.heap.size w (w2.setCell ⟨w.heap.size, 6, none⟩ (.int .i64 (0))) := b2.setCell (Nat.le_refl _) _
      clear H3 e1 O'
      go_wp2_with fail
      refine K3.out.mono ?_
      rintro e w4 ⟨rfl, f4⟩
      go_wp2
      go_ret
      exact ⟨rfl, belowT b4 f4⟩
    · have hr' : n.tmod 8 = 7 := by rw [Int.tmod_eq_emod_of_nonneg n1]; exact hr
      go_wp2_with fail
      refine (large_any c _).mono ?_
      rintro e w3 ⟨rfl, rfl⟩
      have B3 := B2.on (below1 w2 (.cells #[.int .i64 c.size, .int .i64 c.pages, .slice c.ca c.cn c.cc, .slice c.ka c.kn c.kc, .int .i64 c.step, .int .i64 c.slots, .int .i64 c.gens, .int .i64 c.most] 24))
      have b3 := belowT b2 (below1 w2 (.cells #[.int .i64 c.size, .int .i64 c.pages, .slice c.ca c.cn c.cc, .slice c.ka c.kn c.kc, .int .i64 c.step, .int .i64 c.slots, .int .i64 c.gens, .int .i64 c.most] 24))
      have O3 : c.Ok (w2.alloc (.cells #[.int .i64 c.size, .int .i64 c.pages, .slice c.ca c.cn c.cc, .slice c.ka c.kn c.kc, .int .i64 c.step, .int .i64 c.slots, .int .i64 c.gens, .int .i64 c.most] 24)) w.heap.size := hc.below b3
      have F3 : Hid (∀ i, (w2.alloc (.cells #[.int .i64 c.size, .int .i64 c.pages, .slice c.ca c.cn c.cc, .slice c.ka c.kn c.kc, .int .i64 c.step, .int .i64 c.slots, .int .i64 c.gens, .int .i64 c.most] 24)).frozen? ⟨w.heap.size, i, none⟩ = false) := Lib.hid fun i => ((below1 w2 (.cells #[.int .i64 c.size, .int .i64 c.pages, .slice c.ca c.cn c.cc, .slice c.ka c.kn c.kc, .int .i64 c.step, .int .i64 c.slots, .int .i64 c.gens, .int .i64 c.most] 24)).frozen (p := ⟨w.heap.size, i, none⟩) B2.lt).trans (F2.out i)
      generalize w2.alloc (.cells #[.int .i64 c.size, .int .i64 c.pages, .slice c.ca c.cn c.cc, .slice c.ka c.kn c.kc, .int .i64 c.step, .int .i64 c.slots, .int .i64 c.gens, .int .i64 c.most] 24) = w3 at *
      clear B2 b2 O2 F2 x0 x1 x2 x3 x4 x5 x6 x7 x8'
      have ⟨x0, x1, x2, x3, x4, x5, x6, x7, x8'⟩ := B3
      have fz := F3.out 7
      have e1 : confB { c with most := large c.size + 1 } = false := by simp [confB, inB_high (show large c.size < large c.size + 1 by omega)]
      have O' : ({ c with most := large c.size + 1 } : Cf).Ok (w3.setCell ⟨w.heap.size, 7, none⟩ (.int .i64 (large c.size + 1))) (w3.setCell ⟨w.heap.size, 7, none⟩ (.int .i64 (large c.size + 1))).heap.size :=
        Cf.Ok.more { ok_set O3 (p := ⟨w.heap.size, 7, none⟩) (Nat.le_refl _) (.int .i64 (large c.size + 1)) with most := ⟨by (simp only []; omega), by (simp only []; omega)⟩ } (by rw [size_set]; omega)
      have H3 := confMay_any _ _ O'
      rw [confMay_off e1] at H3
      dsimp only at H3
      have K3 := Lib.hid H3
      have b4 : Below w.heap.size w (w3.setCell ⟨w.heap.size, 7, none⟩ (.int .i64 (large c.size + 1))) := b3.setCell (Nat.le_refl _) _
      clear H3 e1 O'
      go_wp2_with fail
      refine K3.out.mono ?_
      rintro e w4 ⟨rfl, f4⟩
      go_wp2
      go_ret
      exact ⟨rfl, belowT b4 f4⟩

/-! ### The frame of the row -/
set_option maxRecDepth 100000 in
theorem lifted (os : Os) (started : os.Started) (H : Type) (enc : TypeId × Value → H) :
    ReturnsInHanded {} Try.checked os 6 .any (Rows.confLessSpec.pre6 enc Try.prog Try.f6 Rows.confLessRow.domain false) (Rows.confLessSpec.post enc Try.prog Try.f6 false true false false) := by
  refine returnsInHanded_of_change (C := Try.checked) own started (by kernel_rfl) Try.func6
    (ChangeSpec.witness6 (enc := enc) (C := Try.checked) false ⟨#[], #[.agg #[.int .i64 0, .int .i64 0, .slice none 0 0, .slice none 0 0, .int .i64 0, .int .i64 0, .int .i64 0, .int .i64 0], .int .u8 0], []⟩ 8 (by kernel_rfl) (by kernel_rfl) (by kernel_rfl) (by kernel_rfl)) ?_
  intro W base args ds gs before hval0 hW hcnd _
  have hval : ∀ (j : Nat) t v, Try.f6.params[j]? = some t → args[j]? = some v → Value.okWide Try.prog W .any base t v := hval0
  have hW' := hW
  obtain ⟨p, q, hA0, hV, rfl, hfz, hnd⟩ := hW
  have hA : DataW.TrodAll enc Try.prog W 0 (fun _ => true) true Try.f6.params.toList args.toList ds p := hA0
  rw [Try.params6] at hA hval
  obtain ⟨v0, vs0, d0, ds0, p0, q0, hargs, rfl, rfl, h0, r0⟩ := trodAll_cons hA
  obtain ⟨v1, vs1, d1, ds1, p1, q1, rfl, rfl, rfl, h1, r1⟩ := trodAll_cons r0
  obtain ⟨rfl, rfl, rfl⟩ := trodAll_nil r1
  obtain rfl : args = #[v0, v1] := by cases args; simp_all
  obtain ⟨rfl, rfl⟩ := trodVars_none hV
  have k0 := h0
  have lt0 : ∀ x ∈ p0, x.block < W.heap.size := by obtain ⟨m, hm⟩ := k0; exact DataW.trod_lt m _ _ _ hm
  obtain ⟨c, rfl, hc, hcc, hkc⟩ := open_conf (hval 0 24 v0 rfl rfl) h0
  obtain ⟨n, rfl, rfl, rfl, hn⟩ := open_int Try.underlying5 (hval 1 5 v1 rfl rfl) h1
  clear hA0 hval0
  refine (walk c n W hc hcc hkc hn).mono fun e W' ⟨he, bel⟩ => ?_
  subst he
  exact ⟨_, rfl, _, _, _, [], _, [], hW', trodAll_mk1 (shut_bool Try.underlying4 _), (trodAll_cons_mk (Below.trod laidOut (by kernel_rfl) (of_decide_eq_true (by kernel_rfl)) k0 bel lt0) (trodAll_cons_mk (shut_int Try.underlying5 hn) trodAll_mk0)), rfl, bel.frame _, fun h => by cases h⟩

theorem over : Rows.confLessRow.holds Try.pinned (OpenSpec.ofChange Rows.confLessSpec) :=
  OpenClaim.holds_of_wide 6 Try.f6 rfl rfl rfl rfl rfl rfl rfl ⟨rfl, rfl, rfl, rfl, rfl⟩ rfl rfl rfl rfl rfl (by kernel_rfl) Try.func6 (by kernel_rfl)
    (of_decide_eq_true (by kernel_rfl)) (by unfold Func.isWrapper; first | (rw [if_pos (by decide +kernel)]; kernel_rfl) | (rw [if_neg (by decide +kernel)]; exact ⟨rfl, rfl⟩))
    (fun os started H enc _ => lifted os started H enc)

theorem proved : Rows.ConfLessSaid := over
#print axioms proved
end Go.Proofs.Ytkdnbaafdhicjaa.confLess
