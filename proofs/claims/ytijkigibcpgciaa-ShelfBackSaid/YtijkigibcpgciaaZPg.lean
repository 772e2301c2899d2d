import Derived.Test.YtijkigibcpgciaaZGC
import Derived.Test.YtijkigibcpgciaaZGD
import Derived.Maps.OwnSet
/-
  Package page, its ground: what a Page is in memory ('Pm'); its marks; Owner, Used, Full, Hole, Top.
-/
namespace Go.Proofs.Ytijkigibcpgciaa.Pg
open Go.ChangeShapes Go.WideShapes Go.ChangeAt Go.RowKit
set_option maxRecDepth 100000
open Go.Maps (Keyed)

theorem intKeys : Keyed Try.prog 3 := Maps.int_keyed Try.underlying3
theorem zeroInt (w : World) : (zeroValue 3).run Try.prog w = .ok (.int .i64 0) w := by kernel_rfl
theorem wf64 {x : Int} (h : -9223372036854775808 ≤ x ∧ x ≤ 9223372036854775807) : (Lit.int .i64 x).wf = true := by
  simpa [Lit.wf, IntKind.min, IntKind.max, IntKind.signed, IntKind.bits] using h
theorem key64 {x : Int} (h : -9223372036854775808 ≤ x ∧ x ≤ 9223372036854775807) : keyOf Try.prog 3 (.int .i64 x) = some (.int .i64 x) := Maps.keyOf_int_mk Try.underlying3 (wf64 h)

/-- A map of ints, as what is told of its keys: which are there, and what stands at each. -/
structure Kept (D : DataW Unit) (X : List Int) : Prop where
  has : ∀ i : Int, Maps.has D (.int .i64 i) = (ownerOf X i != -1)
  at_ : ∀ i : Int, ownerOf X i ≠ -1 → D.atKey (.int .i64 i) (.lit (.int .i64 0)) = .lit (.int .i64 (ownerOf X i))
  size : Maps.size D = usedN X
/-- Block m is the map of the owners X. -/
def Om (w : World) (m : Nat) (X : List Int) : Prop := ∃ D : DataW Unit, w.ownsMap Try.prog 3 (plainElem Try.prog 3) m (usedN X) D ∧ Kept D X
/-- Block p is a Page: its places in block b, its owners in block m. -/
structure Pm (w : World) (p b m : Nat) (X : List Int) : Prop where
  c0 : w.cell? ⟨p, 0, none⟩ = some (.pointer (some ⟨b, 0, none⟩))
  c1 : w.cell? ⟨p, 1, none⟩ = some (.int .i64 (X.length : Int))
  c2 : w.cell? ⟨p, 2, none⟩ = some (.map (some m))
  bm : Bm w b (usedL X)
  om : Om w m X
  pn : Pn X
  pb : p ≠ b
  pm : p ≠ m
  ne : b ≠ m
section
variable {w w' : World} {p b m : Nat} {X : List Int} {S : Nat → Prop}
theorem Om.lt (h : Om w m X) : m < w.heap.size := by obtain ⟨D, h, _⟩ := h; exact h.lt
theorem Om.but (h : Om w m X) (hb : But S w w') (hn : ¬ S m) : Om w' m X := by
  have hl := h.lt
  obtain ⟨D, ⟨es, clock, he, r⟩, k⟩ := h
  exact ⟨D, ⟨es, clock, (hb.block m hl hn).trans he, r⟩, k⟩
theorem Pm.lt (h : Pm w p b m X) : p < w.heap.size := lt_of_cell (p := ⟨p, 0, none⟩) h.c0
theorem Pm.but (h : Pm w p b m X) (hb : But S w w') (hp : ¬ S p) (h1 : ¬ S b) (h2 : ¬ S m) : Pm w' p b m X :=
  ⟨(hb.cell (p := ⟨p, 0, none⟩) h.lt hp).trans h.c0, (hb.cell (p := ⟨p, 1, none⟩) h.lt hp).trans h.c1, (hb.cell (p := ⟨p, 2, none⟩) h.lt hp).trans h.c2, h.bm.but hb h1, h.om.but hb h2, h.pn, h.pb, h.pm, h.ne⟩
theorem Pm.below (h : Pm w p b m X) (hb : Below w.heap.size w w') : Pm w' p b m X := h.but (Below.but hb fun _ => False) id id id
theorem Pm.l1 (h : Pm w p b m X) : 1 ≤ X.length := by have := h.bm.l1; rwa [used_len] at this
theorem Pm.l2 (h : Pm w p b m X) : X.length ≤ 512 := by have := h.bm.l2; rwa [used_len] at this
end

/-! ### The marks -/
section
variable {w : World} {b : Nat} {L : List Bool} {n : Int}
theorem least_any (h : Bm w b L) : Calls Try.prog 71 #[.agg #[.pointer (some ⟨b, 0, none⟩), .int .i64 n]] w (IB (lowOf L) w) := by
  have H := Lib.hid (fun o => low_any (h.below (below1 w o)))
  clear h
  go_enter Try.func71, Try.ntmps71
  go_wp2_with fail
  refine (H.out _).mono ?_
  rintro e w' ⟨rfl, rfl⟩
  go_wp2
  go_ret
  exact ⟨rfl, below1 w _⟩
theorem great_any (h : Bm w b L) : Calls Try.prog 75 #[.agg #[.pointer (some ⟨b, 0, none⟩), .int .i64 n]] w (IB (highOf L) w) := by
  have H := Lib.hid (fun o => high_any (h.below (below1 w o)))
  clear h
  go_enter Try.func75, Try.ntmps75
  go_wp2_with fail
  refine (H.out _).mono ?_
  rintro e w' ⟨rfl, rfl⟩
  go_wp2
  go_ret
  exact ⟨rfl, below1 w _⟩
theorem taken_any (h : Bm w b L) : Calls Try.prog 85 #[.agg #[.pointer (some ⟨b, 0, none⟩), .int .i64 n]] w (IB ((L.count true : Nat) : Int) w) := by
  have H := Lib.hid (fun o => count_any (h.below (below1 w o)))
  clear h
  go_enter Try.func85, Try.ntmps85
  go_wp2_with fail
  refine (H.out _).mono ?_
  rintro e w' ⟨rfl, rfl⟩
  go_wp2
  go_ret
  exact ⟨rfl, below1 w _⟩
theorem mark_any (h : Bm w b L) (at_ : Int) (is : Bool) : Calls Try.prog 72 #[.agg #[.pointer (some ⟨b, 0, none⟩), .int .i64 n], .int .i64 at_, .bool is] w (SetEnds b (setL L at_ is) (setE L at_ is) w) := by
  have H := Lib.hid (fun o => set_any (h.below (below1 w o)) at_ is)
  generalize setE L at_ is = z at H ⊢
  generalize setL L at_ is = L' at H ⊢
  clear h
  go_enter Try.func72, Try.ntmps72
  go_wp2_with fail
  refine (H.out _).mono ?_
  rintro e w' ⟨rfl, r, hb⟩
  go_wp2
  go_ret
  exact ⟨rfl, r, ((But.refl _ w).alloc _).trans hb⟩
theorem markHas_any (at_ : Int) (k : Nat) (a : Value) (w : World) : Calls Try.prog 78 #[.agg #[a, .int .i64 (k : Int)], .int .i64 at_] w (BB (decide (0 ≤ at_) && decide (at_ < (k : Int))) w) := by
  go_enter Try.func78, Try.ntmps78
  go_wp2
  all_goals
    go_ret
    refine ⟨?_, below1 w _⟩
    first | (simp_all; done) | (simp_all; omega)
end

/-! ### What a Page tells -/
section
variable {w : World} {p b m : Nat} {X : List Int}
theorem hole_any (h : Pm w p b m X) : Calls Try.prog 47 #[.pointer (some ⟨p, 0, none⟩)] w (IB (holeOf X) w) := by
  have H := Lib.hid (least_any (n := (X.length : Int)) h.bm)
  have c0 := h.c0
  have c1 := h.c1
  unfold holeOf
  clear h
  go_enter Try.func47, Try.ntmps47
  go_wp2_with fail
  refine H.out.mono ?_
  rintro e w' ⟨rfl, hb⟩
  have HB := Lib.hid hb
  clear hb
  go_wp2
  go_ret
  exact ⟨rfl, HB.out⟩
theorem top_any (h : Pm w p b m X) : Calls Try.prog 46 #[.pointer (some ⟨p, 0, none⟩)] w (IB (topOf X) w) := by
  have H := Lib.hid (great_any (n := (X.length : Int)) h.bm)
  have c0 := h.c0
  have c1 := h.c1
  unfold topOf
  clear h
  go_enter Try.func46, Try.ntmps46
  go_wp2_with fail
  refine H.out.mono ?_
  rintro e w' ⟨rfl, hb⟩
  have HB := Lib.hid hb
  clear hb
  go_wp2
  go_ret
  exact ⟨rfl, HB.out⟩
theorem used_any (h : Pm w p b m X) : Calls Try.prog 76 #[.pointer (some ⟨p, 0, none⟩)] w (IB ((usedN X : Nat) : Int) w) := by
  have H := Lib.hid (taken_any (n := (X.length : Int)) h.bm)
  have c0 := h.c0
  have c1 := h.c1
  unfold usedN
  clear h
  go_enter Try.func76, Try.ntmps76
  go_wp2_with fail
  refine H.out.mono ?_
  rintro e w' ⟨rfl, hb⟩
  have HB := Lib.hid hb
  clear hb
  go_wp2
  go_ret
  exact ⟨rfl, HB.out⟩
theorem full_any (h : Pm w p b m X) : Calls Try.prog 41 #[.pointer (some ⟨p, 0, none⟩)] w (BB (holeOf X == -1) w) := by
  have H := Lib.hid (least_any (n := (X.length : Int)) h.bm)
  have c0 := h.c0
  have c1 := h.c1
  unfold holeOf
  clear h
  go_enter Try.func41, Try.ntmps41
  go_wp2_with fail
  refine H.out.mono ?_
  rintro e w' ⟨rfl, hb⟩
  have HB := Lib.hid hb
  clear hb
  go_wp2
  go_ret
  exact ⟨rfl, HB.out⟩
theorem owner_any (h : Pm w p b m X) (n : Int) (hn : -9223372036854775808 ≤ n ∧ n ≤ 9223372036854775807) : Calls Try.prog 49 #[.pointer (some ⟨p, 0, none⟩), .int .i64 n] w (R1 (ownerOf X n) w) := by
  obtain ⟨D, hown, hk⟩ := h.om
  have HO := Lib.hid hown
  have hkey := key64 hn
  have c2 := h.c2
  by_cases q : ownerOf X n = -1
  · have eh : Maps.has D (.int .i64 n) = false := by rw [hk.has, q]; rfl
    rw [q]
    clear h hn hk hown q
    go_enter Try.func49, Try.ntmps49
    go_wp2_with (at_lookup; refine wpList_lookup_own_ok_int _ rfl _ _ 96 rfl 3 3 .i64 intKeys Try.underlying96 Try.underlying3 (zeroInt _) m _ D rfl HO.out _ _ rfl hkey ?_; intro c hat hwc; rw [eh]; clear hat hwc)
    go_ret
    exact ⟨rfl, rfl⟩
  · have eh : Maps.has D (.int .i64 n) = true := by rw [hk.has]; simpa using q
    have ea := Lib.hid (hk.at_ n q)
    generalize ownerOf X n = z at ea ⊢
    clear h hn hk hown q
    go_enter Try.func49, Try.ntmps49
    go_wp2_with (at_lookup; refine wpList_lookup_own_ok_int _ rfl _ _ 96 rfl 3 3 .i64 intKeys Try.underlying96 Try.underlying3 (zeroInt _) m _ D rfl HO.out _ _ rfl hkey ?_; intro c hat hwc; rw [eh]; have ec : Hid (z = c) := Lib.hid (by have := ea.out.symm.trans hat; injection this with this; injection this); clear hat hwc)
    go_ret
    exact ⟨by rw [ec.out]; rfl, rfl⟩
end

/-! ### Of a Page that is nil -/
theorem hole_nil (w : World) : Calls Try.prog 47 #[.pointer none] w (R1 (-1) w) := by
  go_enter Try.func47, Try.ntmps47
  go_wp2
  go_ret
  exact ⟨rfl, rfl⟩
theorem top_nil (w : World) : Calls Try.prog 46 #[.pointer none] w (R1 (-1) w) := by
  go_enter Try.func46, Try.ntmps46
  go_wp2
  go_ret
  exact ⟨rfl, rfl⟩
theorem used_nil (w : World) : Calls Try.prog 76 #[.pointer none] w (R1 0 w) := by
  go_enter Try.func76, Try.ntmps76
  go_wp2
  go_ret
  exact ⟨rfl, rfl⟩
theorem full_nil (w : World) : Calls Try.prog 41 #[.pointer none] w (B1 false w) := by
  go_enter Try.func41, Try.ntmps41
  go_wp2
  go_ret
  exact ⟨rfl, rfl⟩
theorem owner_nil (n : Int) (w : World) : Calls Try.prog 49 #[.pointer none, .int .i64 n] w (R1 (-1) w) := by
  go_enter Try.func49, Try.ntmps49
  go_wp2
  go_ret
  exact ⟨rfl, rfl⟩
end Go.Proofs.Ytijkigibcpgciaa.Pg
