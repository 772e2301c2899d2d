import Derived.Test.YtfkegbipfekbdaaZRoomNew
import Derived.Test.YtfkegbipfekbdaaZIntsLit
import Derived.Test.YtfkegbipfekbdaaZRoomBack
import Derived.Test.YtfkegbipfekbdaaZClassMay
import Derived.Deep.QuietTactic
import Derived.BigQuiet
/-
  The laws' common beginning (almerylaw20.awake), met by a contract: a small thing and a large one; it returns true, and leaves all memory that was there as it was. And a room that was just made.
-/
namespace Go.Proofs.Ytfkegbipfekbdaa.Room
open Go.ChangeShapes Go.WideShapes Go.ChangeAt Go.RowKit
open Sh (Shl Ps Sw Uw Sr Sm Fx Adr Lab Nxt Far nums usedS mem_nums planV VB)
set_option maxRecDepth 100000

/-- A room behind w0: all its blocks, and all that has turned, were made since. -/
structure Aw (w0 w : World) (y : Gx) (m : Nat) (r : Rom) (F : Nat → Prop) : Prop where
  rh : Rh w y m r F
  lo : ∀ i, F i → w0.heap.size ≤ i
  bd : Below w0.heap.size w0 w
section
variable {w w0 w1 w2 w' : World} {y : Gx} {m : Nat} {r r' : Rom} {F : Nat → Prop} {c : Cf}
theorem Aw.below (h : Aw w0 w y m r F) (hb : Below w.heap.size w w') : Aw w0 w' y m r F := ⟨h.rh.below hb, h.lo, belowT h.bd hb⟩
theorem Aw.next (h : Aw w0 w y m r F) (hn : RhN w y m r' F w') : ∃ F', Aw w0 w' y m r' F' ∧ (∀ i, i < w.heap.size → F' i → F i) ∧ But F w w' := by
  obtain ⟨F', h1, h2, h3⟩ := hn
  have s := h.bd.size
  refine ⟨F', ⟨h1, fun i q => ?_, h.bd.trans (h3.below s fun k hk q => by have := h.lo k q; omega)⟩, h2, h3⟩
  by_cases e : i < w.heap.size
  · exact h.lo i (h2 i e q)
  · omega
/-- A meter, and a room that is charged to it. -/
theorem Aw.made (hm : Mt w1 m 0 0) (hm0 : w0.heap.size ≤ m) (b1 : Below w0.heap.size w0 w1) (b2 : Below w1.heap.size w1 w2) {e : Ending} (h : RnEnds (.pointer (some ⟨m, 0, none⟩)) c w2 e w') :
    ∃ y F, e = .returned (.tuple #[.pointer (some ⟨y.g, 0, none⟩), .int .i64 0]) ∧ Aw w0 w' y m (newR y.K y.c.cn) F ∧ y.c = c ∧ (y.K : Int) = c.pages := by
  obtain ⟨y, x, A, lab, V, Q, rfl, gm, hc, hK, hv, lo, b3⟩ := h
  have ms := hm.size
  have s1 := b1.size
  have s2 := b2.size
  have b := belowT b2 b3
  have mo : ¬ Ftp y lab Q m := fun q => by have := lo m q; omega
  refine ⟨y, fun i => Ftp y lab Q i ∨ i = m, rfl, ⟨⟨x, A, lab, V, Q, gm, hv, hm.below b, mo, fun _ => Iff.rfl⟩, fun i q => ?_, belowT b1 b⟩, hc, hK⟩
  rcases q with q | q
  · have := lo i q
    omega
  · rw [q]
    exact hm0
end

/-! ### awake -/
/-- The small layout, its lists in blocks g and k. -/
def smallCf (g k : Nat) : Cf := ⟨64, 4, some ⟨g, 0, none⟩, 1, 1, some ⟨k, 0, none⟩, 1, 1, 8, 4, 3, 512, [32], [2]⟩
theorem small20_any (w : World) : Calls Try.prog 20 #[] w fun e w' =>
    ∃ g k : Nat, e = .returned (.agg #[.int .i64 64, .int .i64 4, .slice (some ⟨g, 0, none⟩) 1 1, .slice (some ⟨k, 0, none⟩) 1 1, .int .i64 8, .int .i64 4, .int .i64 3, .int .i64 512]) ∧ (smallCf g k).Ok w' w'.heap.size ∧ Below w.heap.size w w' := by
  have H : Calls Try.prog 20 #[] w fun e w' =>
      e = .returned (.agg #[.int .i64 64, .int .i64 4, .slice (some ⟨w.heap.size + 1, 0, none⟩) 1 1, .slice (some ⟨w.heap.size + 1 + 1, 0, none⟩) 1 1, .int .i64 8, .int .i64 4, .int .i64 3, .int .i64 512]) ∧
      w' = ((w.alloc (.cells #[.int .i64 64, .int .i64 4, .slice (some ⟨w.heap.size + 1, 0, none⟩) 1 1, .slice (some ⟨w.heap.size + 1 + 1, 0, none⟩) 1 1, .int .i64 8, .int .i64 4, .int .i64 3, .int .i64 512] 24)).alloc (.cells #[.int .i64 32] 3)).alloc (.cells #[.int .i64 2] 3) := by
    go_enter Try.func20, Try.ntmps20
    go_wp2
    exact bodyPost_ret (v := .agg #[.int .i64 64, .int .i64 4, .slice (some ⟨w.heap.size + 1, 0, none⟩) 1 1, .slice (some ⟨w.heap.size + 1 + 1, 0, none⟩) 1 1, .int .i64 8, .int .i64 4, .int .i64 3, .int .i64 512]) (by simp [results, Try.results20, go_sem]) rfl ⟨rfl, rfl⟩
  refine H.mono ?_
  rintro e w' ⟨rfl, rfl⟩
  generalize (Obj.cells #[.int .i64 64, .int .i64 4, .slice (some ⟨w.heap.size + 1, 0, none⟩) 1 1, .slice (some ⟨w.heap.size + 1 + 1, 0, none⟩) 1 1, .int .i64 8, .int .i64 4, .int .i64 3, .int .i64 512] 24) = o
  have h1 : (w.alloc o).heap.size = w.heap.size + 1 := by simp
  have h2 : ((w.alloc o).alloc (.cells #[.int .i64 32] 3)).heap.size = w.heap.size + 1 + 1 := by simp
  have i1 := ints_lit (w.alloc o) [32] #[.int .i64 32] 3 rfl (by simp) (fit_list (by decide))
  have i2 := ints_lit ((w.alloc o).alloc (.cells #[.int .i64 32] 3)) [2] #[.int .i64 2] 3 rfl (by simp) (fit_list (by decide))
  rw [h1] at i1
  rw [h2] at i2
  have i1' := i1.on (below1 _ (.cells #[.int .i64 2] 3))
  have b1 := below1 w o
  have b2 := (b1.alloc b1.size (.cells #[.int .i64 32] 3))
  have b3 := (b2.alloc b2.size (.cells #[.int .i64 2] 3))
  refine ⟨_, _, rfl, ⟨i1', i2, ?_, ?_, ?_, ?_, ?_, ?_⟩, b3⟩ <;> simp [smallCf, Fit]
def aw1 : Rom := ⟨[0, -1, -1, -1], [1, 2, 3], [([(0, [7, -1])], [0])], [], 7⟩
def aw2 : Rom := ⟨[0, 1, 1, 1], [], [([(0, [7, -1])], [0])], [(1, [2, 3])], 21⟩
def aw3 : Rom := ⟨[0, -1, -1, -1], [3, 2, 1], [([(0, [7, -1])], [0])], [], 35⟩
theorem aw_may (g k : Nat) : confB (smallCf g k) = true := rfl
theorem aw_1 (g k : Nat) : placeR (blk (smallCf g k)) (smallCf g k) (newR 4 1) 7 20 = (aw1, ⟨0, 0, 0, []⟩, 0) := by kernel_rfl
theorem aw_2 (g k : Nat) : placeR (blk (smallCf g k)) (smallCf g k) aw1 8 100 = (aw2, ⟨-1, 1, 0, [2, 3]⟩, 0) := by kernel_rfl
theorem aw_3 (g k : Nat) : fitsR (smallCf g k) aw2 100 = 5 := by kernel_rfl
theorem aw_4 : dropR aw2 ⟨-1, 1, 0, [2, 3]⟩ = (aw3, 0) := by
  unfold dropR
  rw [if_neg (by decide), if_pos (by decide)]
  rfl
theorem aw_5 : dropR aw3 ⟨-1, 1, 0, [2, 3]⟩ = (aw3, 1) := by
  unfold dropR
  rw [if_neg (by decide), if_neg (by decide)]
theorem aw_6 : heldR aw3 = 1 := by kernel_rfl
theorem aw_7 : openR aw3 0 = 1 := by kernel_rfl
theorem aw_8 : ownerR aw3 0 0 0 = 7 := by kernel_rfl
theorem aw_st : St (newR 4 1) ∧ St aw1 ∧ St aw2 ∧ St aw3 := by
  refine ⟨⟨?_, ?_⟩, ⟨?_, ?_⟩, ⟨?_, ?_⟩, ⟨?_, ?_⟩⟩ <;> decide
set_option maxHeartbeats 4000000 in
theorem awake20_any (w : World) : Calls Try.prog 5 #[] w (BB true w) := by
  have HM := Lib.hid (new_any w)
  go_enter Try.func5, Try.ntmps5
  go_wp2_with fail
  refine HM.out.mono ?_
  rintro e w1 ⟨rfl, m1, b1, _⟩
  have HS := Lib.hid (small20_any w1)
  have M1 := Lib.hid (And.intro m1 b1)
  clear m1 b1 HM
  obtain ⟨m, hm⟩ : ∃ m, m = w.heap.size := ⟨_, rfl⟩
  have EM := Lib.hid hm
  rw [← hm] at M1 ⊢
  clear hm
  go_wp2_with fail
  refine HS.out.mono ?_
  rintro e w2 ⟨g, k, rfl, ok, b2⟩
  have HR : Hid (Calls Try.prog 6 #[.agg #[.int .i64 64, .int .i64 4, .slice (some ⟨g, 0, none⟩) 1 1, .slice (some ⟨k, 0, none⟩) 1 1, .int .i64 8, .int .i64 4, .int .i64 3, .int .i64 512], .pointer (some ⟨m, 0, none⟩)] w2 fun e w3 => ∃ y F, e = .returned (.tuple #[.pointer (some ⟨y.g, 0, none⟩), .int .i64 0]) ∧ Aw w w3 y m (newR 4 1) F ∧ y.c = smallCf g k) := Lib.hid (by
    refine (grnew_ok (c := smallCf g k) (some ⟨m, 0, none⟩) ok (aw_may g k)).mono ?_
    intro e w3 hr
    obtain ⟨y, F, he, aw, hc, hK⟩ := Aw.made (c := smallCf g k) (w0 := w) M1.out.1 (by rw [EM.out]; exact Nat.le_refl _) (by have := M1.out.2; rw [EM.out] at this; exact this) b2 hr
    have e1 : y.K = 4 := by
      have : (y.K : Int) = 4 := hK
      omega
    have e2 : y.c.cn = 1 := by rw [hc]; rfl
    rw [e1, e2] at aw
    exact ⟨y, F, he, aw, hc⟩)
  clear ok b2 HS
  go_wp2_with fail
  refine HR.out.mono ?_
  rintro e w3 ⟨y, F3, rfl, a3, hc⟩
  have HC := Lib.hid hc
  have P1 := Lib.hid (a3.rh.place aw_st.1 7 20 (by omega) (by omega))
  rw [hc, aw_1] at P1
  have A3 := Lib.hid a3
  clear a3 hc HR
  go_wp2_with fail
  refine P1.out.mono ?_
  rintro e w4 ⟨pa1, pc1, rfl, _, F4, h4, s4, t4, _⟩
  obtain ⟨F4', a4, s4', t4'⟩ := A3.out.next ⟨F4, h4, s4, t4⟩
  have b4 := below1 w4 (boxP 0 0 0 pa1 0 pc1)
  have a5 := a4.below b4
  have q4 : ¬ F4' w4.heap.size := fun q => by have := a4.rh.fin q; omega
  have X4 := Lib.hid (Bp.new w4 0 0 0 pa1 0 pc1)
  have P2 := Lib.hid (a5.rh.place aw_st.2.1 8 100 (by omega) (by omega))
  rw [HC.out, aw_2] at P2
  have A5 := Lib.hid (And.intro a5 q4)
  clear h4 s4 t4 s4' t4' a4 b4 a5 q4 A3 P1
  go_wp2_with fail
  refine P2.out.mono ?_
  rintro e w6 ⟨pa2, pc2, rfl, i6, F6, h6, s6, t6, hp6⟩
  obtain ⟨g6, o6, rfl, _, n6⟩ := hp6 (by decide)
  have x6 := X4.out.but t6 A5.out.2
  have b6 := below1 w6 (boxP (-1) 1 0 (some ⟨g6, o6, none⟩) 2 pc2)
  have HX : Hid (Aw w (w6.alloc (boxP (-1) 1 0 (some ⟨g6, o6, none⟩) 2 pc2)) y m aw2 F6 ∧ ¬ F6 g6 ∧ ¬ F6 w4.heap.size ∧ ¬ F6 w6.heap.size ∧ Bp (w6.alloc (boxP (-1) 1 0 (some ⟨g6, o6, none⟩) 2 pc2)) w4.heap.size 0 0 0 pa1 0 pc1 ∧ Bp (w6.alloc (boxP (-1) 1 0 (some ⟨g6, o6, none⟩) 2 pc2)) w6.heap.size (-1) 1 0 (some ⟨g6, o6, none⟩) 2 pc2 ∧ Ints (w6.alloc (boxP (-1) 1 0 (some ⟨g6, o6, none⟩) 2 pc2)) (w6.alloc (boxP (-1) 1 0 (some ⟨g6, o6, none⟩) 2 pc2)).heap.size (some ⟨g6, o6, none⟩) 2 [2, 3]) := Lib.hid (by
    have s := A5.out.1.bd.size
    have l4 := X4.out.lt
    refine ⟨⟨h6.below b6, fun i q => ?_, A5.out.1.bd.trans ((t6.below s fun k hk q => by have := A5.out.1.lo k q; omega).trans (b6.mono (Nat.le_trans s t6.size)))⟩, n6, fun q => A5.out.2 (s6 _ l4 q), fun q => by have := h6.fin q; omega, x6.on b6, Bp.new w6 (-1) 1 0 _ 2 pc2, i6.on b6⟩
    by_cases e : i < (w4.alloc (boxP 0 0 0 pa1 0 pc1)).heap.size
    · exact A5.out.1.lo i (s6 i e q)
    · omega)
  clear X4 A5 P2 i6 h6 s6 t6 hp6 n6 x6 b6
  obtain ⟨w7, hw7⟩ : ∃ w7, w7 = w6.alloc (boxP (-1) 1 0 (some ⟨g6, o6, none⟩) 2 pc2) := ⟨_, rfl⟩
  have HF := Lib.hid (HX.out.1.rh.fits 100 (by omega))
  rw [HC.out, aw_3] at HF
  go_wp2_with fail
  refine HF.out.mono ?_
  rintro e w8 ⟨rfl, b8⟩
  obtain ⟨a8, n1, n2, n3, x1, x2, i8⟩ := HX.out
  have HY := Lib.hid (And.intro (a8.below b8) (And.intro (x1.on b8) (And.intro (x2.on b8) (i8.on b8))))
  have HN := Lib.hid (And.intro n1 (And.intro n2 n3))
  obtain ⟨q0, q1, q2, q3⟩ := x2.on b8
  have D1 := Lib.hid (HY.out.1.rh.drop aw_st.2.2.1 ⟨-1, 1, 0, [2, 3]⟩ (some ⟨g6, o6, none⟩) 2 pc2 HY.out.2.2.2 (fun _ => ⟨g6, o6, rfl, n1⟩) (by show Pl.Fit 1; unfold Pl.Fit; omega))
  rw [aw_4] at D1
  clear a8 n1 n2 n3 x1 x2 i8 b8 HX HF hw7 w7
  go_wp2_with fail
  refine D1.out.mono ?_
  rintro e w9 ⟨rfl, n9⟩
  obtain ⟨F9, a9, s9, t9⟩ := HY.out.1.next n9
  have f4 : ¬ F9 w4.heap.size := fun q => HN.out.2.1 (s9 _ HY.out.2.1.lt q)
  have f6 : ¬ F9 w6.heap.size := fun q => HN.out.2.2 (s9 _ HY.out.2.2.1.lt q)
  have fg : ¬ F9 g6 := fun q => by
    obtain ⟨b, o, e, hl, _⟩ := HY.out.2.2.2.head (by decide)
    injection e with e
    injection e with e1 e2
    exact HN.out.1 (s9 _ (by omega) q)
  have i9 : Ints w9 w9.heap.size (some ⟨g6, o6, none⟩) 2 [2, 3] := (HY.out.2.2.2.far t9 (Nat.le_refl _) fun _ => ⟨g6, o6, rfl, HN.out.1⟩).more t9.size
  have HZ := Lib.hid (And.intro a9 (And.intro (HY.out.2.1.but t9 HN.out.2.1) (And.intro (HY.out.2.2.1.but t9 HN.out.2.2) i9)))
  have HM := Lib.hid (And.intro f4 f6)
  obtain ⟨e0, e1, e2, e3⟩ := HY.out.2.2.1.but t9 HN.out.2.2
  have D2 := Lib.hid (a9.rh.drop aw_st.2.2.2 ⟨-1, 1, 0, [2, 3]⟩ (some ⟨g6, o6, none⟩) 2 pc2 i9 (fun _ => ⟨g6, o6, rfl, fg⟩) (by show Pl.Fit 1; unfold Pl.Fit; omega))
  rw [aw_5] at D2
  clear n9 a9 s9 t9 f4 f6 fg i9 HY HN D1 q0 q1 q2 q3
  go_wp2_with fail
  refine D2.out.mono ?_
  rintro e wA ⟨rfl, nA⟩
  obtain ⟨FA, aA, sA, tA⟩ := HZ.out.1.next nA
  obtain ⟨q0, q1, q2, q3⟩ := HZ.out.2.2.1.but tA HM.out.2
  obtain ⟨p0, p1, p2, p3⟩ := HZ.out.2.1.but tA HM.out.1
  have G1 := Lib.hid aA.rh.held
  have G2 := Lib.hid (fun n => (aA.rh.below (belowN (Below.refl wA.heap.size wA) n)).opens 0)
  have G3 := Lib.hid (fun n => (aA.rh.below (belowN (Below.refl wA.heap.size wA) n)).owner 0 (n := 0) (i := 0) (by unfold Pl.Fit; omega) (by unfold Pl.Fit; omega))
  have G4 := Lib.hid (fun n => (aA.rh.below (belowN (Below.refl wA.heap.size wA) n)).total)
  rw [aw_6] at G1
  rw [aw_7] at G2
  rw [aw_8] at G3
  have HB := Lib.hid aA.bd
  have hst : aw3.st = 35 := rfl
  rw [hst] at G4
  clear nA aA sA tA HZ HM D2 e0 e1 e2 e3 hst
  go_wp2_with fail
  refine G1.out.mono ?_
  rintro e w' ⟨rfl, n, rfl⟩
  go_wp2_with fail
  refine (G2.out n).mono ?_
  rintro e w' ⟨rfl, rfl⟩
  go_wp2_with fail
  refine (G3.out n).mono ?_
  rintro e w' ⟨rfl, rfl⟩
  go_wp2_with fail
  refine (G4.out n).mono ?_
  rintro e w' ⟨rfl, rfl⟩
  go_wp2
  go_ret
  exact ⟨rfl, belowN HB.out n⟩
end Go.Proofs.Ytfkegbipfekbdaa.Room
/-
  A new plain room: nothing is held, nothing open, and a thing of one byte fits. No statement about a Go function.
-/
namespace Go.Proofs.Ytfkegbipfekbdaa.Room
open Sh (Sw Uw)

theorem new_held (K n : Nat) : heldR (newR K n) = 0 := by
  show ((Pl.freed K).length : Int) - ((Pl.turns K).length : Int) = 0
  have := (Pl.Pw.new K).len
  rw [this, Pl.turns_len]
  omega
theorem new_open (K n : Nat) (k : Int) : openR (newR K n) k = 0 := by
  unfold openR
  split
  · rw [new_shelf]
    rfl
  · rfl
theorem new_fits {c : Cf} (h : MayC c) {K : Nat} (hK : 1 ≤ K) : fitsR c (newR K c.cn) 1 = 0 := by
  have ht : isT c 1 = true := isT_true.2 ⟨by omega, h.most.1⟩
  obtain ⟨l, hl, e, l8, _⟩ := h.small
  obtain ⟨k, hk, hp⟩ := h.pick_small (s := 1) (by omega) (by omega)
  unfold fitsR
  rw [if_pos ht, hp, if_pos (by omega), if_neg]
  rintro ⟨_, q⟩
  have : (newR K c.cn).fl.length = K := Pl.turns_len K
  rw [q] at this
  simp at this
  omega
end Go.Proofs.Ytfkegbipfekbdaa.Room
/-
  The document's own Large of package conf (almeryref03.Large), met by a contract: the plain answer; all memory that was there is as it was.
-/
namespace Go.Proofs.Ytfkegbipfekbdaa
open Go.ChangeShapes Go.WideShapes Go.ChangeAt Go.RowKit

theorem refLarge_any (c : Cf) (w : World) :
    Calls Try.prog 27 #[(.agg #[.int .i64 c.size, .int .i64 c.pages, .slice c.ca c.cn c.cc, .slice c.ka c.kn c.kc, .int .i64 c.step, .int .i64 c.slots, .int .i64 c.gens, .int .i64 c.most])] w (IBox (large c.size) c w) := by
  by_cases h1 : c.size < 64
  · rw [large_off (by simp [sizeB, inB_low h1])]
    go_enter Try.func27, Try.ntmps27
    go_wp2
    go_ret
    exact ⟨rfl, rfl⟩
  · by_cases h2 : 4096 < c.size
    · rw [large_off (by simp [sizeB, inB_high h2])]
      go_enter Try.func27, Try.ntmps27
      go_wp2
      go_ret
      exact ⟨rfl, rfl⟩
    · cases h3 : (c.size % 8 != 0) with
      | true =>
        have hm : ¬ c.size % 8 = 0 := by simpa using h3
        rw [large_off (by simp [sizeB, hm])]
        clear hm
        go_enter Try.func27, Try.ntmps27
        go_wp2
        go_ret
        exact ⟨rfl, rfl⟩
      | false =>
        have hm : c.size % 8 = 0 := by simpa using h3
        rw [large_words (sizeB_true.2 ⟨by omega, by omega, hm⟩)]
        clear hm
        obtain ⟨q1, q2⟩ := words_bounds (s := c.size) (by omega) (by omega)
        go_enter Try.func27, Try.ntmps27
        go_wp2
        go_ret
        exact ⟨rfl, rfl⟩
end Go.Proofs.Ytfkegbipfekbdaa
