import Derived.Test.YtfkegbipfekbdaaZRmMade
import Derived.Test.YtfkegbipfekbdaaZConfMay
import Derived.Test.YtfkegbipfekbdaaZPlNew
import Derived.Test.YtfkegbipfekbdaaZRmLarge
import Derived.Test.YtfkegbipfekbdaaZClassNum
import Derived.Test.YtfkegbipfekbdaaZPgBitsNum
/-
  Package room: New of any layout.
-/
namespace Go.Proofs.Ytfkegbipfekbdaa.Room
open Go.ChangeShapes Go.WideShapes Go.ChangeAt Go.RowKit
open Sh (Shl Ps Sw Uw Sr Sm Fx Adr Lab Nxt Far nums usedS mem_nums)
set_option maxRecDepth 100000

section
variable {w wr W : World} {c : Cf}
theorem grnew_bad (mp : Option Addr) (hc : c.Ok w w.heap.size) (hb : confMay c ≠ 0) :
    Calls Try.prog 6 #[(.agg #[.int .i64 c.size, .int .i64 c.pages, .slice c.ca c.cn c.cc, .slice c.ka c.kn c.kc, .int .i64 c.step, .int .i64 c.slots, .int .i64 c.gens, .int .i64 c.most]), .pointer mp] w fun e w' => e = .returned (.tuple #[.pointer none, .int .i64 (confMay c)]) ∧ Below w.heap.size w w' := by
  have b0 := below1 w (.cells #[.int .i64 c.size, .int .i64 c.pages, .slice c.ca c.cn c.cc, .slice c.ka c.kn c.kc, .int .i64 c.step, .int .i64 c.slots, .int .i64 c.gens, .int .i64 c.most] 24)
  have HM := Lib.hid (confMay_any c (w.alloc (.cells #[.int .i64 c.size, .int .i64 c.pages, .slice c.ca c.cn c.cc, .slice c.ka c.kn c.kc, .int .i64 c.step, .int .i64 c.slots, .int .i64 c.gens, .int .i64 c.most] 24)) ((hc.below b0).more b0.size))
  have d0 : (confMay c != 0) = true := by simpa using hb
  have B0 := Lib.hid b0
  generalize confMay c = z at HM d0 ⊢
  clear hc hb b0
  go_enter Try.func6, Try.ntmps6
  go_wp2_with fail
  refine HM.out.mono ?_
  rintro e w1 ⟨rfl, b1⟩
  have HB := Lib.hid (belowT B0.out b1)
  clear b1
  go_wp2
  go_ret2
  exact ⟨rfl, HB.out⟩
/-- How New ends: a room of this layout. -/
def RnEnds (mv : Value) (c : Cf) (w : World) (e : Ending) (w' : World) : Prop :=
  ∃ y x A lab V Q, e = .returned (.tuple #[.pointer (some ⟨y.g, 0, none⟩), .int .i64 0]) ∧ Gm w' y x A lab V Q (newR y.K y.c.cn) ∧ y.c = c ∧ (y.K : Int) = c.pages ∧ y.mv = mv ∧ (∀ i, Ftp y lab Q i → w.heap.size ≤ i) ∧ Below w.heap.size w w'
set_option maxHeartbeats 4000000 in
theorem grnew_ok (mp : Option Addr) (hc : c.Ok w w.heap.size) (hb : confB c = true) :
    Calls Try.prog 6 #[(.agg #[.int .i64 c.size, .int .i64 c.pages, .slice c.ca c.cn c.cc, .slice c.ka c.kn c.kc, .int .i64 c.step, .int .i64 c.slots, .int .i64 c.gens, .int .i64 c.most]), .pointer mp] w (RnEnds (.pointer mp) c w) := by
  have b0 := below1 w (.cells #[.int .i64 c.size, .int .i64 c.pages, .slice c.ca c.cn c.cc, .slice c.ka c.kn c.kc, .int .i64 c.step, .int .i64 c.slots, .int .i64 c.gens, .int .i64 c.most] 24)
  have may := mayC hb
  have hcn : c.cn = c.xs.length := hc.classes.len.symm
  have hpg : 1 ≤ c.pages ∧ c.pages ≤ 1024 := by
    simp only [confB, Bool.and_eq_true] at hb
    exact inB_true.1 hb.2.1
  obtain ⟨K, hK⟩ : ∃ K : Nat, c.pages = (K : Int) := ⟨c.pages.toNat, by omega⟩
  have k1 : 1 ≤ K := by omega
  have k2 : K ≤ 1024 := by omega
  have n16 : c.cn ≤ 16 := by have := may.few; omega
  have n1 : 1 ≤ c.cn := by have := may.one; omega
  have HM := Lib.hid (confMay_any c (w.alloc (.cells #[.int .i64 c.size, .int .i64 c.pages, .slice c.ca c.cn c.cc, .slice c.ka c.kn c.kc, .int .i64 c.step, .int .i64 c.slots, .int .i64 c.gens, .int .i64 c.most] 24)) ((hc.below b0).more b0.size))
  rw [confMay_on hb] at HM
  have BX := Boxed.new w c
  have HP := Lib.hid (fun v => Pl.new_ok K v k1 k2)
  have hmk := make_shelves c.cn (by omega)
  have hmm := @run_makeMap Try.prog
  have HX : Hid (∀ v, Below (w.alloc (.cells #[.int .i64 c.size, .int .i64 c.pages, .slice c.ca c.cn c.cc, .slice c.ka c.kn c.kc, .int .i64 c.step, .int .i64 c.slots, .int .i64 c.gens, .int .i64 c.most] 24)).heap.size (w.alloc (.cells #[.int .i64 c.size, .int .i64 c.pages, .slice c.ca c.cn c.cc, .slice c.ka c.kn c.kc, .int .i64 c.step, .int .i64 c.slots, .int .i64 c.gens, .int .i64 c.most] 24)) v → Boxed v w.heap.size c) := Lib.hid fun v bv => BX.on bv
  have HC : Hid (∀ v, Below (w.alloc (.cells #[.int .i64 c.size, .int .i64 c.pages, .slice c.ca c.cn c.cc, .slice c.ka c.kn c.kc, .int .i64 c.step, .int .i64 c.slots, .int .i64 c.gens, .int .i64 c.most] 24)).heap.size (w.alloc (.cells #[.int .i64 c.size, .int .i64 c.pages, .slice c.ca c.cn c.cc, .slice c.ka c.kn c.kc, .int .i64 c.step, .int .i64 c.slots, .int .i64 c.gens, .int .i64 c.most] 24)) v → c.Ok v v.heap.size) := Lib.hid fun v bv => (hc.below (b0.trans (bv.mono b0.size))).more (belowT b0 bv).size
  have HS : Hid (∀ w1 w2 pp pa, Below (w.alloc (.cells #[.int .i64 c.size, .int .i64 c.pages, .slice c.ca c.cn c.cc, .slice c.ka c.kn c.kc, .int .i64 c.step, .int .i64 c.slots, .int .i64 c.gens, .int .i64 c.most] 24)).heap.size (w.alloc (.cells #[.int .i64 c.size, .int .i64 c.pages, .slice c.ca c.cn c.cc, .slice c.ka c.kn c.kc, .int .i64 c.step, .int .i64 c.slots, .int .i64 c.gens, .int .i64 c.most] 24)) w1 → Pl.Pm w2 pp pa K (Pl.freed K) (Pl.turns K) → Below w1.heap.size w1 w2 → w1.heap.size ≤ pp → w1.heap.size ≤ pa → Gnw (w.alloc (.cells #[.int .i64 c.size, .int .i64 c.pages, .slice c.ca c.cn c.cc, .slice c.ka c.kn c.kc, .int .i64 c.step, .int .i64 c.slots, .int .i64 c.gens, .int .i64 c.most] 24)) (w2.alloc (noShelves c.cn)) pp pa w2.heap.size K c.cn 0 (blk c) (fun _ => ⟨0, 0, 0, 0, 0, 0, 0, 0, 0, 0⟩) (fun _ _ => (0, 0, 0)) (fun _ _ => none)) := Lib.hid fun w1 w2 pp pa b1 p2 b2 l1 l2 =>
    Gnw.start p2 (belowT b1 b2) (Nat.le_trans b1.size l1) (Nat.le_trans b1.size l2) c.cn (blk c) _ _ _
  have HJ : Hid (∀ (wr : World) pp pa sb j x A lab, Gnw (w.alloc (.cells #[.int .i64 c.size, .int .i64 c.pages, .slice c.ca c.cn c.cc, .slice c.ka c.kn c.kc, .int .i64 c.step, .int .i64 c.slots, .int .i64 c.gens, .int .i64 c.most] 24)) wr pp pa sb K c.cn j (blk c) x A lab → j < c.cn → Calls Try.prog 25 #[(.agg #[.int .i64 c.size, .int .i64 c.pages, .slice c.ca c.cn c.cc, .slice c.ka c.kn c.kc, .int .i64 c.step, .int .i64 c.slots, .int .i64 c.gens, .int .i64 c.most]), .int .i64 (j : Int)] wr fun e w4 => e = .returned (.int .i64 (blk c j : Int)) ∧
      Calls Try.prog 24 #[.pointer (some ⟨pp, 0, none⟩), .int .i64 (j : Int), .int .i64 (blk c j : Int)] w4 fun e w5 => ∃ s x' A' lab', e = .returned (.tuple #[.pointer (some ⟨s, 0, none⟩), .int .i64 0]) ∧ w5.frozen? ⟨sb, j, none⟩ = false ∧ w5.cell? ⟨sb, j, none⟩ = some (.pointer none) ∧
        Gnw (w.alloc (.cells #[.int .i64 c.size, .int .i64 c.pages, .slice c.ca c.cn c.cc, .slice c.ka c.kn c.kc, .int .i64 c.step, .int .i64 c.slots, .int .i64 c.gens, .int .i64 c.most] 24)) (w5.setCell ⟨sb, j, none⟩ (.pointer (some ⟨s, 0, none⟩))) pp pa sb K c.cn (j + 1) (blk c) x' A' lab') := Lib.hid fun wr pp pa sb j x A lab g hj => by
    obtain ⟨q1, q2, q3⟩ := blk_in may (show j < c.xs.length by omega)
    have := blocks_any c (j : Int) wr (HC.out wr g.bd) (by unfold Fit; omega)
    rw [← q3] at this
    refine this.mono ?_
    rintro e w4 ⟨rfl, b4⟩
    refine ⟨rfl, (Sh.shNew_ok (g.pool.below b4) (j : Int) (by omega) (by omega) (blk c j) q1 q2).mono ?_⟩
    rintro e w5 ⟨xj, Aj, lj, rfl, sm, hx, b5, hl⟩
    obtain ⟨r1, r2, r3⟩ := g.next hj b4 sm hx b5 hl
    exact ⟨xj.s, _, _, _, rfl, r1, r2, r3⟩
  have HT : Hid (∀ v, c.Ok v v.heap.size → Calls Try.prog 26 #[.slice c.ca c.cn c.cc] v (Tells c.cn c.xs v)) := Lib.hid fun v hv => clone_any c.ca c.cn c.cc c.xs v hv.classes (by omega)
  have HD := Lib.hid (And.intro may (And.intro hcn (And.intro k1 (And.intro k2 (And.intro hK n1)))))
  have QN := Lib.hid n16
  have B0 := Lib.hid b0
  clear hc hb b0 may hcn hpg k1 k2 n16 n1 BX hK
  go_enter Try.func6, Try.ntmps6
  go_wp2_with fail
  refine HM.out.mono ?_
  rintro e w1 ⟨rfl, b1⟩
  have B1 := Lib.hid b1
  obtain ⟨x0, x1, x2, x3, x4, x5, x6, x7, x8⟩ := HX.out w1 b1
  rw [HD.out.2.2.2.2.1] at x1
  clear b1
  go_wp2_with fail
  refine (HP.out w1).mono ?_
  rintro e w2 ⟨pp, pa, rfl, p2, b2, l1, l2⟩
  have HS0 := Lib.hid (HS.out w1 w2 pp pa B1.out p2 b2 l1 l2)
  obtain ⟨y0, y1, y2, y3, y4, y5, y6, y7, y8⟩ := HX.out w2 (belowT B1.out b2)
  clear p2 b2 l1 l2 HS x0 x1 x2 x3 x4 x5 x6 x7 x8 HP
  go_wp2
  generalize w2.alloc (noShelves c.cn) = w3 at HS0 ⊢
  generalize w2.heap.size = sb at HS0 ⊢
  clear hmk y0 y1 y2 y3 y4 y5 y6 y7 y8
  go_loopw [28, 10] (fun i _ wr => ∃ (j : Nat) (x : Nat → Fx) (A : Nat → Adr) (lab : Nat → Lab), j ≤ c.cn ∧ i = .int .i64 (j : Int) ∧ Gnw (w.alloc (.cells #[.int .i64 c.size, .int .i64 c.pages, .slice c.ca c.cn c.cc, .slice c.ka c.kn c.kc, .int .i64 c.step, .int .i64 c.slots, .int .i64 c.gens, .int .i64 c.most] 24)) wr pp pa sb K c.cn j (blk c) x A lab) (fun i _ _ => c.cn - (intOf i).toNat)
  case atStart => exact ⟨0, _, _, _, by omega, rfl, HS0.out⟩
  case round =>
    obtain ⟨j, x, A, lab, hj, rfl, hg⟩ := hrel
    have qn := QN.out
    obtain ⟨x0, x1, x2, x3, x4, x5, x6, x7, x8⟩ := HX.out wr hg.bd
    by_cases hlt : j < c.cn
    · have dj : decide ((j : Int) < (c.cn : Int)) = true := decide_eq_true (by omega)
      have dj' : decide (j < c.cn) = true := decide_eq_true hlt
      have HB := Lib.hid (HJ.out wr pp pa sb j x A lab hg hlt)
      clear hg HJ HT HX
      go_wp2_with fail
      refine HB.out.mono ?_
      rintro e w4 ⟨rfl, hs⟩
      have HS := Lib.hid hs
      clear hs x0 x1 x2 x3 x4 x5 x6 x7 x8
      go_wp2_with fail
      refine HS.out.mono ?_
      rintro e w5 ⟨s, x', A', lab', rfl, f5, c5, g5⟩
      have G5 := Lib.hid g5
      clear g5
      go_wp2
      go_round
      case rel => exact ⟨j + 1, x', A', lab', by omega, by go_num, G5.out⟩
      case measure => simp [intOf]; omega
    · have dj : decide ((j : Int) < (c.cn : Int)) = false := decide_eq_false (by omega)
      have dj' : decide (j < c.cn) = false := decide_eq_false hlt
      obtain rfl : j = c.cn := by omega
      have BD : Hid (Below wr.heap.size wr wr.drew) := Lib.hid (belowD (Below.refl _ _))
      have BA : Hid (∀ o, Below wr.heap.size wr (wr.alloc o).drew) := Lib.hid fun o => belowD (below1 wr o)
      have HT2 : Hid (∀ v, Below wr.heap.size wr v → Calls Try.prog 26 #[.slice c.ca c.cn c.cc] v (Tells c.cn c.xs v)) := Lib.hid fun v bv => HT.out v (HC.out v (hg.bd.trans (bv.mono hg.bd.size)))
      have KA : Hid (∀ v, Below wr.heap.size wr v → v.cell? ⟨w.heap.size, 0, none⟩ = some (.int .i64 c.size) ∧ v.cell? ⟨w.heap.size, 2, none⟩ = some (.slice c.ca c.cn c.cc) ∧ v.cell? ⟨w.heap.size, 7, none⟩ = some (.int .i64 c.most)) := Lib.hid fun v bv => by
        obtain ⟨z0, z1, z2, z3, z4, z5, z6, z7, z8⟩ := HX.out v (hg.bd.trans (bv.mono hg.bd.size))
        exact ⟨z0, z2, z7⟩
      have BC : Hid (∀ v o, Below wr.heap.size wr v → Below wr.heap.size wr (v.alloc o)) := Lib.hid fun v o b => b.alloc b.size o
      have BR : Hid (Below wr.heap.size wr wr) := Lib.hid (Below.refl _ _)
      have HF : Hid (∀ (W : World) (za : Option Addr) (zc mm : Nat), Below wr.heap.size wr W → Ints W W.heap.size za c.cn c.xs → c.cn ≤ zc → (∃ g o, za = some ⟨g, o, none⟩ ∧ wr.heap.size ≤ g ∧ g ≠ mm) → Lm W mm [] (fun _ => .pointer none) → wr.heap.size ≤ mm →
          RnEnds (.pointer mp) c w (.returned (.tuple #[.pointer (some ⟨W.heap.size, 0, none⟩), .int .i64 0])) (W.alloc (.cells #[.pointer mp, .pointer (some ⟨pp, 0, none⟩), .slice (some ⟨sb, 0, none⟩) c.cn c.cn, .slice za c.cn zc, .int .i64 c.size, .int .i64 c.most, .map (some mm)] 65))) := Lib.hid fun W za zc mm bW hz hzc hzb hm hmm => by
        obtain ⟨may, hcn, k1, k2, hK, n1⟩ := HD.out
        obtain ⟨g, o, rfl, h1, h2⟩ := hzb
        obtain ⟨g', o', e, hgl, _⟩ := hz.head (by omega)
        injection e with e
        injection e with e1 e2
        obtain ⟨gm, lo⟩ := hg.made may hcn k1 k2 bW hz hzc ⟨h1, by omega, h2⟩ hm hmm (.pointer mp)
        have s0 := B0.out.size
        refine ⟨_, x, A, lab, _, _, rfl, gm, rfl, hK.symm, rfl, fun i q => Nat.le_trans s0 (lo i q), ?_⟩
        exact B0.out.trans (((hg.bd.trans (bW.mono hg.bd.size)).trans ((below1 W _).mono (Nat.le_trans hg.bd.size bW.size))).mono s0)
      have N1 := Lib.hid HD.out.2.2.2.2.2
      clear hg HJ HT HX HC B1 HD QN
      go_wp2_with fail
      clear x0 x1 x2 x3 x4 x5 x6 x7 x8
      go_region_held3 (fun v => v.cell? ⟨w.heap.size, 0, none⟩ = some (.int .i64 c.size) ∧ v.cell? ⟨w.heap.size, 2, none⟩ = some (.slice c.ca c.cn c.cc) ∧ v.cell? ⟨w.heap.size, 7, none⟩ = some (.int .i64 c.most))
        (first | exact KA.out _ BD.out | exact KA.out _ BR.out | exact KA.out _ (BA.out _) | exact KA.out _ bb6 | exact KA.out _ (BC.out _ _ bb6) | exact KA.out _ (BC.out _ _ (BC.out _ _ bb6)))
        ((go_at_call 26; refine (HT2.out _ ?_).mono ?_; (first | exact BD.out | exact BA.out _); rintro e w6 ⟨za, zc, rfl, i6, o6, b6⟩; (first | have bb6 := belowT BD.out b6 | have bb6 := belowT (BA.out _) b6)))
      · have eW : (w6.alloc (.map #[] 0)).heap.size = w6.heap.size + 1 := by simp
        have HE := Lib.hid (HF.out (w6.alloc (.map #[] 0)) za zc w6.heap.size (BC.out _ _ bb6) (i6.on (below1 w6 _)) o6.1 (by
          obtain ⟨g, o, e, hg, _⟩ := o6.2 N1.out
          obtain ⟨g', o', e', hl, _⟩ := i6.head N1.out
          rw [e] at e'
          injection e' with e'
          injection e' with e1 e2
          exact ⟨g, o, e, hg, by omega⟩) (Lm.new w6 _) bb6.size)
        rw [eW] at HE
        clear i6 o6 b6 bb6 eW HF KA BC BR BA BD HT2
        go_wp2
        go_ret2
        exact HE.out
      · have HE := Lib.hid (HF.out w6 za zc wr.heap.size bb6 i6 o6.1 (by
          obtain ⟨g, o, e, hg, _⟩ := o6.2 N1.out
          have hg' : (wr.alloc (.map #[] 0)).heap.size ≤ g := hg
          simp at hg'
          exact ⟨g, o, e, by omega, by omega⟩) (((Lm.new wr _).but ((But.refl (fun _ => False) (wr.alloc (.map #[] 0))).drew) id).but (Below.but b6 (fun _ => False)) id) (Nat.le_refl _))
        clear i6 o6 b6 bb6 HF KA BC BR BA BD HT2
        go_wp2
        go_ret2
        exact HE.out
end
end Go.Proofs.Ytfkegbipfekbdaa.Room
/-
  A slice of ints that is written out, as a list. No statement about a Go function.
-/
namespace Go.Proofs.Ytfkegbipfekbdaa
open Go.ChangeShapes Go.WideShapes Go.ChangeAt Go.RowKit

theorem ints_lit (w : World) (xs : List Int) (cs : Array Value) (t : TypeId) (hcs : cs = (xs.map (Value.int .i64)).toArray) (hm : xs.length ≤ 1000) (hf : ∀ x ∈ xs, -9223372036854775808 ≤ x ∧ x ≤ 9223372036854775807) :
    Ints (w.alloc (.cells cs t)) (w.alloc (.cells cs t)).heap.size (some ⟨w.heap.size, 0, none⟩) xs.length xs := by
  refine ⟨rfl, by omega, hf, fun _ => ⟨w.heap.size, 0, rfl, by simp, fun k s hs => ?_⟩⟩
  have hh : (w.alloc (.cells cs t)).heap[w.heap.size]? = some (.cells cs t) := by simp only [World.alloc, Array.getElem?_push, if_true]
  rw [World.cell?, hh]
  subst hcs
  simp [hs]
theorem fit_list {xs : List Int} (h : xs.all (fun x => decide (-1000 ≤ x ∧ x ≤ 1000)) = true) : ∀ x ∈ xs, -9223372036854775808 ≤ x ∧ x ≤ 9223372036854775807 := by
  intro x hx
  rw [List.all_eq_true] at h
  have := of_decide_eq_true (h x hx)
  omega
end Go.Proofs.Ytfkegbipfekbdaa
