/-
  Take of package op, met by a contract: the plain 'takeOut'.
-/
import Derived.Test.YtjnnblcafocdoaaDoorOpHelp
import Derived.Test.YtjnnblcafocdoaaDoorOpWide
import Derived.Test.YtjnnblcafocdoaaDoorOpRefTake
import Derived.WalkMore
import Derived.Deep.LoopGhost
namespace Go.Proofs.YtjnnblcafocdoaaDoor
open Go.ChangeShapes Go.WideShapes Go.ChangeAt Go.RowKit

/-- An operation's bytes lie in no block of the row v. -/
def Aside19 (B : Nat) (v : Value) (u : Ov) : Prop := ∀ q, u.ba = some q → q.block < B ∧ v.ownBlock ≠ some q.block
/-- Operations, each with bytes of its own, keep them while the row grows. -/
theorem ok_grew {w w' : World} {v v' : Value} {u : Ov} (g : Grew w w' v v') (h : u.ok w w.heap.size) (a : Aside19 w.heap.size v u) : u.ok w' w'.heap.size ∧ Aside19 w'.heap.size v' u := by
  refine ⟨⟨h.kind, h.h, h.a, h.b, g.far h.bytes fun p e => (a p e).2, h.cap⟩, fun q e => ⟨Nat.lt_of_lt_of_le (a q e).1 g.size, fun z => ?_⟩⟩
  rcases g.2 _ z with y | y
  · exact (a q e).2 y
  · have := (a q e).1; omega
theorem Aside19.more {B B' : Nat} {v : Value} {u : Ov} (h : Aside19 B v u) (hB : B ≤ B') : Aside19 B' v u := fun q e => ⟨Nat.lt_of_lt_of_le (h q e).1 hB, (h q e).2⟩
/-- The five numbers, as far as they are read. -/
def numsTo (N : Nat → Int) (j : Nat) : List Value := (List.range 5).map fun i => .int .i64 (if i < j then N i else 0)
theorem numsTo_set (N : Nat → Int) {j : Nat} (hj : j < 5) : (numsTo N j).set j (.int .i64 (N j)) = numsTo N (j + 1) := by
  rcases five hj with rfl | rfl | rfl | rfl | rfl <;> simp [numsTo, List.range, List.range.loop]
theorem numsTo_len (N : Nat → Int) (j : Nat) : (numsTo N j).length = 5 := by simp [numsTo]
/-- The number that Take reads as the i-th one of the operation at place p. -/
def readN (b : List Int) (p : Nat) (i : Nat) : Int := i64 (wordOf (sub b (p + off19 i) (wid i)))
theorem i64_small {x : Int} (h0 : 0 ≤ x) (h1 : x ≤ 65535) : i64 x = x := by unfold i64; rw [if_pos (by omega)]
theorem sub_one {b : List Int} {i : Nat} {k : Int} (h : b[i]? = some k) : sub b i 1 = [k] := sub_at h
theorem sub_two {b : List Int} {i : Nat} {x y : Int} (h : b[i]? = some x) (h2 : b[i + 1]? = some y) : sub b i 2 = [x, y] := by
  rw [show (2 : Nat) = 1 + 1 from rfl, ← sub_join, sub_at h, sub_at h2]
  rfl
theorem readN_kind {b : List Int} {p : Nat} {k : Int} (h : b[p]? = some k) (h0 : 0 ≤ k) (h1 : k ≤ 255) : readN b p 0 = k := by
  unfold readN
  rw [show p + off19 0 = p from rfl, show wid 0 = 1 from rfl, sub_one h]
  simp only [wordOf]
  rw [i64_small (by omega) (by omega)]
  omega
theorem readN_many {b : List Int} {p : Nat} {x y : Int} (h : b[p + 25]? = some x) (h2 : b[p + 26]? = some y) (x0 : 0 ≤ x) (x1 : x ≤ 255) (y0 : 0 ≤ y) (y1 : y ≤ 255) : readN b p 4 = x + 256 * y := by
  unfold readN
  rw [show p + off19 4 = p + 25 from rfl, show wid 4 = 2 from rfl, sub_two h h2]
  simp only [wordOf]
  rw [i64_small (by omega) (by omega)]
  omega

set_option maxRecDepth 20000 in
set_option maxHeartbeats 4000000 in
theorem take19_any (a : Option Addr) (n c : Nat) (b : List Int) (w : World) (hW : Wd w) (hb : Bytes w w.heap.size a n b) (hnc : n ≤ c) (hn : n ≤ 100000) :
    Calls Tryd.prog 12 #[.slice a n c] w (TakeEnd b w) := by
  have HL := Lib.hid hb.len
  have HW := Lib.hid hW
  have HBY := Lib.hid hb
  have hpos := hW.pos
  have hnm : n ≤ 9223372036854775807 := by omega
  clear hW hb
  go_enter Tryd.func12, Tryd.ntmps12
  go_wp2
  go_step3
  go_wp2
  go_step3
  go_wp2
  go_loopg [5, 6] n (fun g v i wr => ∃ (p m : Nat) (us : List Ov), p + g = n ∧ i = .int .i64 p ∧ Hid (Got b p (us.map Ov.op)) ∧ Hid (OwnO wr w.heap.size v m us) ∧ m ≤ p ∧ Hid (∀ u ∈ us, u.ok wr wr.heap.size ∧ Aside19 wr.heap.size v u) ∧ Hid (Below w.heap.size w wr))
  case atStart => exact ⟨0, 0, [], by omega, rfl, Lib.hid (Got.zero _), Lib.hid (OwnO.nil _ _), by omega, Lib.hid (fun u hu => by simp at hu), Lib.hid (Below.refl _ _)⟩
  case round =>
    obtain ⟨p, m, us, hp, rfl, HG, HOWN, hmp, HOK, HBW⟩ := hrel
    by_cases hlt : p < n
    · have dn : decide ((p : Int) < (n : Int)) = true := decide_eq_true (by omega)
      have dn' : decide (p < n) = true := decide_eq_true hlt
      have W1 := HW.out.next HBW.out
      have v0 := W1.c0
      have v1 := W1.c1
      have v2 := W1.c2
      have v3 := W1.c3
      have v4 := W1.c4
      have hpos1 : 0 < wr.heap.size := W1.pos
      have HC : Hid (Cs (wr.alloc (.cells #[.int .i64 0, .int .i64 0, .int .i64 0, .int .i64 0, .int .i64 0] 42)) wr.heap.size (numsTo (readN b p) 0)) := Lib.hid (Cs.new wr _ 42 rfl)
      obtain ⟨bb, oo, rfl, hbB, hcl⟩ := HBY.out.head (by omega)
      have HCL := Lib.hid hcl
      obtain ⟨va, vc, rfl, hvc, hvo⟩ := HOWN.out.form
      have NB : Hid (∀ k, (Value.slice va m vc).ownBlock = some k → k < wr.heap.size) := Lib.hid (by
        intro k e
        rcases hvo with rfl | ⟨z, rfl, _, hz⟩
        · simp [Value.ownBlock] at e
        · simp [Value.ownBlock] at e; omega)
      have hle : w.heap.size ≤ wr.heap.size := HBW.out.size
      have HBW2 : Hid (∀ v, Below wr.heap.size wr v → Below w.heap.size w v) := Lib.hid (fun v h => belowT HBW.out h)
      have HOWN2 : Hid (∀ v, Below wr.heap.size wr v → OwnO v w.heap.size (.slice va m vc) m us) := Lib.hid (fun v h => HOWN.out.on h)
      have HOK2 : Hid (∀ v, Below wr.heap.size wr v → ∀ u ∈ us, u.ok v wr.heap.size ∧ Aside19 wr.heap.size (.slice va m vc) u) := Lib.hid (fun v h u hu => ⟨(HOK.out u hu).1.below h, (HOK.out u hu).2⟩)
      have HB0 : Hid (Below wr.heap.size wr (wr.alloc (.cells #[.int .i64 0, .int .i64 0, .int .i64 0, .int .i64 0, .int .i64 0] 42))) := Lib.hid (below1 _ _)
      clear W1 hcl hvo HOK HOWN HBW
      go_wp2
      generalize wr.heap.size = G at *
      clear v0 v1 v2 v3 v4
      go_loopg [8, 18] 5 (fun g2 e i wy => ∃ j : Nat, j + g2 = 5 ∧ i = .int .i64 j ∧ e = .int .i64 ((p + off19 j : Nat) : Int) ∧ p + off19 j ≤ n ∧ Hid (Below G wr wy) ∧ Hid (Cs wy G (numsTo (readN b p) j)))
      case atStart => exact ⟨0, by omega, rfl, rfl, by show p + 0 ≤ n; omega, HB0, HC⟩
      case round =>
        obtain ⟨j, hj, rfl, rfl, hpj, HB, HCS⟩ := hrel
        cases gk with
        | zero =>
          obtain rfl : j = 5 := by omega
          obtain ⟨k, hk, k0, k1⟩ := HBY.out.at_ (k := p) hlt
          have h27 : p + 27 ≤ n := hpj
          obtain ⟨x, hx, xx0, xx1⟩ := HBY.out.at_ (k := p + 25) (by omega)
          obtain ⟨y, hy, yy0, yy1⟩ := HBY.out.at_ (k := p + 26) (by omega)
          obtain ⟨q, hq⟩ : ∃ q : Nat, (q : Int) = x + 256 * y := ⟨(x + 256 * y).toNat, by omega⟩
          have q1 : q ≤ 65535 := by omega
          have HLN := Lib.hid (lenAt_drop hx hy hq)
          have e0 := readN_kind hk k0 k1
          have e4 : readN b p 4 = (q : Int) := by rw [readN_many hx hy xx0 xx1 yy0 yy1, hq]
          have J1 := Lib.hid (numL_word (HBY.out.fit.sub (p + 1) 8) (length_sub _ _ _ (by rw [HL.out]; omega))).2
          have J2 := Lib.hid (numL_word (HBY.out.fit.sub (p + 9) 8) (length_sub _ _ _ (by rw [HL.out]; omega))).2
          have J3 := Lib.hid (numL_word (HBY.out.fit.sub (p + 17) 8) (length_sub _ _ _ (by rw [HL.out]; omega))).2
          have HCV : Hid (numsTo (readN b p) 5 = [.int .i64 k, .int .i64 (i64 (wordOf (sub b (p + 1) 8))), .int .i64 (i64 (wordOf (sub b (p + 9) 8))), .int .i64 (i64 (wordOf (sub b (p + 17) 8))), .int .i64 (q : Int)]) := Lib.hid (by
            rw [← e0, ← e4]; rfl)
          have EO : Hid (opAtP b p q k = ⟨k, i64 (wordOf (sub b (p + 1) 8)), i64 (wordOf (sub b (p + 9) 8)), i64 (wordOf (sub b (p + 17) 8)), sub b (p + 27) q⟩) := Lib.hid rfl
          rw [HCV.out] at HCS
          have HK := Lib.hid hk
          clear hk hx hy e0 e4 HCV HC hq xx0 xx1 yy0 yy1
          generalize i64 (wordOf (sub b (p + 1) 8)) = m1 at *
          generalize i64 (wordOf (sub b (p + 9) 8)) = m2 at *
          generalize i64 (wordOf (sub b (p + 17) 8)) = m3 at *
          have y0 := HCS.out.cell 0 _ rfl
          have y1 := HCS.out.cell 1 _ rfl
          have y2 := HCS.out.cell 2 _ rfl
          have y3 := HCS.out.cell 3 _ rfl
          have y4 := HCS.out.cell 4 _ rfl
          have HGS : G ≤ wr.heap.size := Nat.le_of_lt HCS.out.size
          have HLO : Hid (¬ n - p - 27 < q → mayO (⟨k, m1, m2, m3, sub b (p + 27) q⟩ : Opn) = mayN k (q : Int)) := Lib.hid (fun hl => by
            rw [← mayN_op, show (sub b (p + 27) q).length = q from length_sub _ _ _ (by rw [HL.out]; omega)])
          have HPM : Hid (¬ n - p - 27 < q → parse1 (b.drop p) = if mayN k (q : Int) = true then some ⟨k, m1, m2, m3, sub b (p + 27) q⟩ else none) := Lib.hid (fun hl => by
            rw [parse_may (by rw [HL.out]; omega) HLN.out (by rw [HL.out]; exact hl) HK.out, EO.out, HLO.out hl])
          have HPL : Hid (n - p - 27 < q → parse1 (b.drop p) = none) := Lib.hid (fun hl => parse_long (by rw [HL.out]; omega) HLN.out (by rw [HL.out]; exact hl))
          have HM := Lib.hid (may19_any k m1 m2 m3 (q : Int))
          clear HLN EO HLO
          obtain ⟨E, hE⟩ : ∃ E, E = p + 27 := ⟨_, rfl⟩
          rw [show p + off19 5 = E from hE.symm]
          have HEE := Lib.hid hE
          have hEn : E ≤ n := by omega
          clear hE hpj h27
          cases hmay : mayN k (q : Int) with
          | false =>
            rw [hmay] at HM HPM
            have HP := Lib.hid (HG.out.bad (by rw [HL.out]; omega) (by
              by_cases hl : n - p - 27 < q
              · exact HPL.out hl
              · rw [HPM.out hl]; rfl))
            have HF := Lib.hid (HBW2.out _ HB.out)
            clear HPM HPL hmay HBW2 HOWN2 HOK2
            go_wp2_with fail
            refine (HM.out _).mono ?_
            rintro e w1 ⟨rfl, f1⟩
            go_wp2
            try rw [Exit.noGoto_ret]
            refine bodyPost_ret (v := .tuple #[.slice none 0 0, .int .i64 (p : Int), .int .i64 2]) (by simp [results, Tryd.results12, go_sem]) rfl ?_
            exact ⟨none, 0, 0, [], by rw [HP.out], by omega, Ops.empty _ _ _, by rw [HP.out]; rfl, belowT HF.out f1⟩
          | true =>
            rw [hmay] at HM HPM
            have HF := Lib.hid (HBW2.out _ HB.out)
            clear hmay
            go_wp2_with fail
            refine (HM.out _).mono ?_
            rintro e w1 ⟨rfl, f1⟩
            have CS1 := Lib.hid (HCS.out.below f1)
            have F1 := Lib.hid (belowT HF.out f1)
            have B1 := Lib.hid (HB.out.trans (f1.mono HGS))
            have HGS1 : G ≤ w1.heap.size := Nat.le_trans HGS f1.size
            have z0 := CS1.out.cell 0 _ rfl
            have z1 := CS1.out.cell 1 _ rfl
            have z2 := CS1.out.cell 2 _ rfl
            have z3 := CS1.out.cell 3 _ rfl
            have z4 := CS1.out.cell 4 _ rfl
            clear y0 y1 y2 y3 y4 HCS HM HB HF f1
            by_cases hl : n - E < q
            · have dl : decide ((n : Int) - (E : Int) < (q : Int)) = true := decide_eq_true (by omega)
              have HP := Lib.hid (HG.out.bad (by rw [HL.out]; omega) (HPL.out (by have := HEE.out; omega)))
              clear HPM HPL HBW2 HOWN2 HOK2 z0 z1 z2 z3
              go_wp2
              try rw [Exit.noGoto_ret]
              refine bodyPost_ret (v := .tuple #[.slice none 0 0, .int .i64 (p : Int), .int .i64 2]) (by simp [results, Tryd.results12, go_sem]) rfl ?_
              exact ⟨none, 0, 0, [], by rw [HP.out], by omega, Ops.empty _ _ _, by rw [HP.out]; rfl, F1.out⟩
            · have dl : decide ((n : Int) - (E : Int) < (q : Int)) = false := decide_eq_false (by omega)
              have HX : Hid (Bytes w1 w.heap.size (some ⟨bb, oo, none⟩) n b) := Lib.hid (HBY.out.below F1.out)
              have HCUT := Lib.hid (cut19_any bb oo n c E q w1 (by omega) (by omega))
              clear z0 z1 z2 z3
              go_wp2_with fail
              refine HCUT.out.mono ?_
              rintro e w2 ⟨o', c', rfl, hc', ho', rfl⟩
              have F1s := F1.out.size
              obtain ⟨v', w3, r3, o3, g3⟩ := grow_bytes (c := c') (OwnB.nil w1 w1.heap.size) ((HX.out.cut (i := E) (k := q) (by omega) ho').more F1s) (Nat.le_refl _) (by omega) 25
              have b3 := (OwnB.nil w1 w1.heap.size).below (Nat.le_refl _) g3
              rw [Nat.zero_add, List.nil_append] at o3
              obtain ⟨a3, c3, rfl, hc3, hx3⟩ := o3.bytes (HBY.out.fit.sub _ _) (by omega)
              have HA3 : Hid (∀ p, a3 = some p → w1.heap.size ≤ p.block ∧ p.block < w3.heap.size) := Lib.hid (fun p e => by
                obtain ⟨a', c'', e', _, hz⟩ := o3.form
                injection e' with e1 _ _
                subst e1
                rcases hz with rfl | ⟨z, rfl, hz1, hz2⟩
                · cases e
                · injection e with e
                  subst e
                  exact ⟨hz1, hz2⟩)
              have R3 := Lib.hid r3
              have X3 := Lib.hid hx3
              have B3 := Lib.hid b3
              have BG3 := Lib.hid (B1.out.trans (b3.mono HGS1))
              have CS3 := Lib.hid (CS1.out.below b3)
              clear r3 o3 g3 b3 hx3 ho' hc' HCUT HX z4 CS1
              have z0 := CS3.out.cell 0 _ rfl
              have z1 := CS3.out.cell 1 _ rfl
              have z2 := CS3.out.cell 2 _ rfl
              have z3 := CS3.out.cell 3 _ rfl
              have bA := below1 w3 (.cells #[.int .i64 k, .int .i64 m1, .int .i64 m2, .int .i64 m3, .slice a3 q c3] 40)
              have hG3 : G ≤ w3.heap.size := Nat.le_trans HGS1 B3.out.size
              have BGA := Lib.hid (BG3.out.trans (bA.mono hG3))
              have hownA := HOWN2.out _ BGA.out
              have hxs : Cs (w3.alloc (.cells #[.int .i64 k, .int .i64 m1, .int .i64 m2, .int .i64 m3, .slice a3 q c3] 40)) w3.heap.size (⟨k, m1, m2, m3, a3, q, c3, sub b E q⟩ : Ov).cells := Cs.new _ _ _ rfl
              have hAl : w.heap.size ≤ (w3.alloc (.cells #[.int .i64 k, .int .i64 m1, .int .i64 m2, .int .i64 m3, .slice a3 q c3] 40)).heap.size := (HBW2.out _ BGA.out).size
              obtain ⟨v4, w4, r4, o4, g4⟩ := grow_op (c := 1) hownA hxs hAl (by omega) 22
              have R4 := Lib.hid r4
              have O4 := Lib.hid o4
              have BW4 := Lib.hid ((HBW2.out _ BGA.out).trans (hownA.below hAl g4))
              have OK4 : Hid (∀ u ∈ us ++ [(⟨k, m1, m2, m3, a3, q, c3, sub b E q⟩ : Ov)], u.ok w4 w4.heap.size ∧ Aside19 w4.heap.size v4 u) := Lib.hid (by
                have hs : G ≤ (w3.alloc (.cells #[.int .i64 k, .int .i64 m1, .int .i64 m2, .int .i64 m3, .slice a3 q c3] 40)).heap.size := Nat.le_trans hG3 bA.size
                intro u hu
                rcases List.mem_append.1 hu with z | z
                · obtain ⟨h1, h2⟩ := HOK2.out _ BGA.out u z
                  exact ok_grew g4 (h1.more hs) (h2.more hs)
                · obtain rfl := List.mem_singleton.1 z
                  refine ok_grew g4 ⟨⟨by show -9223372036854775808 ≤ k; omega, by show k ≤ 9223372036854775807; omega⟩, J1.out, J2.out, J3.out, X3.out.on bA, hc3⟩ (fun p e => ?_)
                  obtain ⟨h1, h2⟩ := HA3.out p e
                  refine ⟨Nat.lt_of_lt_of_le h2 bA.size, fun y => ?_⟩
                  have := NB.out _ y
                  omega)
              have CS4 := Lib.hid (g4.cs (CS3.out.below bA) (fun y => by have := NB.out _ y; omega)).1
              have z4 := CS4.out.cell 4 _ rfl
              have HNX : Hid (Got b (E + q) ((us ++ [(⟨k, m1, m2, m3, a3, q, c3, sub b E q⟩ : Ov)]).map Ov.op)) := Lib.hid (by
                have hl' : ¬ n - p - 27 < q := by have := HEE.out; omega
                have hlen : (sub b (p + 27) q).length = q := length_sub _ _ _ (by rw [HL.out]; have := HEE.out; omega)
                have := HG.out.next (o := (⟨k, m1, m2, m3, sub b (p + 27) q⟩ : Opn)) (by rw [HPM.out hl']; simp) (by rw [HL.out]; show p + (27 + (sub b (p + 27) q).length) ≤ n; rw [hlen]; have := HEE.out; omega)
                rw [show (⟨k, m1, m2, m3, sub b (p + 27) q⟩ : Opn).bs.length = q from hlen, ← Nat.add_assoc, ← HEE.out] at this
                rw [List.map_append]
                exact this)
              clear r4 o4 g4 hxs hownA hAl bA HPM HPL HBW2 HOWN2 HOK2 CS4 CS3 B1 BG3 BGA X3 HA3 HG
              go_wp2_with (first | refine wpList_append_run rfl _ _ rfl rfl rfl rfl R3.out ?_ | refine wpList_append_run (w' := w4) (v := v4) rfl (.tmp 57) (.tmp 68) rfl rfl rfl rfl ?_ ?_; (· exact R4.out))
              go_roundg (n - (E + q))
              case measure => have := HEE.out; omega
              case rel => exact ⟨E + q, m + 1, us ++ [⟨k, m1, m2, m3, a3, q, c3, sub b E q⟩], by omega, by go_num, HNX, O4, by have := HEE.out; omega, OK4, BW4⟩
        | succ g2 =>
          have hj5 : j < 5 := by omega
          have dj : decide ((j : Int) < 5) = true := decide_eq_true (by omega)
          have dj' : decide (j < 5) = true := decide_eq_true hj5
          have hx := wid_at wr hj5
          have HOW := Lib.hid (off_wid hj5)
          have HOS := Lib.hid (off_step hj5)
          have HNS := Lib.hid (numsTo_set (readN b p) hj5)
          have HRD : Hid (readN b p j = i64 (wordOf (sub b (p + off19 j) (wid j)))) := Lib.hid rfl
          have hwd : wid j ≤ 8 := wid_le
          have hwpos : 0 < wid j := by unfold wid; split <;> omega
          generalize hwj : wid j = wd at *
          generalize hE : p + off19 j = E at *
          clear hwj
          have HEE := Lib.hid hE
          clear hE
          by_cases hsh : n - E < wd
          · have dsh : decide ((n : Int) - (E : Int) < (wd : Int)) = true := decide_eq_true (by omega)
            have HP := Lib.hid (HG.out.bad (by rw [HL.out]; omega) (parse_short (by rw [HL.out]; have := HOW.out; have := HEE.out; omega)))
            have HF := Lib.hid (HBW2.out _ HB.out)
            clear HBW2 HOWN2 HOK2
            go_wp2
            try rw [Exit.noGoto_ret]
            refine bodyPost_ret (v := .tuple #[.slice none 0 0, .int .i64 (p : Int), .int .i64 2]) (by simp [results, Tryd.results12, go_sem]) rfl ?_
            exact ⟨none, 0, 0, [], by rw [HP.out], by omega, Ops.empty _ _ _, by rw [HP.out]; rfl, HF.out⟩
          · have dsh : decide ((n : Int) - (E : Int) < (wd : Int)) = false := decide_eq_false (by omega)
            have HCUT := Lib.hid (cut19_any bb oo n c E wd wr (by omega) (by omega))
            have HBb := Lib.hid (HBY.out.below (HBW2.out _ HB.out))
            go_wp2_with fail
            refine HCUT.out.mono ?_
            rintro e w2 ⟨o', c', rfl, hc', ho', rfl⟩
            obtain rfl : o' = oo + E := ho' hwpos
            have HN := Lib.hid (number19_any bb (oo + E) wd c' _ _ wr (HBb.out.cut (i := E) (k := wd) (by omega) (fun _ => rfl)) (by omega))
            rw [← HRD.out] at HN
            have hcell := HCS.out.cell j _ (List.getElem?_eq_getElem (by rw [numsTo_len]; exact hj5))
            have hfree := HCS.out.free j (by rw [numsTo_len]; exact hj5)
            generalize (numsTo (readN b p) j)[j]'(by rw [numsTo_len]; exact hj5) = old at hcell
            clear ho' hc' HCUT
            have HC2 := Lib.hid (HCS.out.set j (.int .i64 (readN b p j)))
            rw [HNS.out] at HC2
            have HB2 := Lib.hid (HB.out.setCell (p := ⟨G, j, none⟩) (Nat.le_refl _) (.int .i64 (readN b p j)))
            generalize readN b p j = X at HN HC2 HB2
            go_wp2_with fail
            refine HN.out.mono ?_
            rintro e w2 ⟨rfl, rfl⟩
            clear HN HNS HRD
            go_wp2
            go_roundg g2
            case measure => omega
            case rel => exact ⟨j + 1, by omega, by go_num, by rw [HOS.out, ← Nat.add_assoc, HEE.out]; go_num, by rw [HOS.out, ← Nat.add_assoc, HEE.out]; omega, HB2, HC2⟩
    · have dn : decide ((p : Int) < (n : Int)) = false := decide_eq_false (by omega)
      have dn' : decide (p < n) = false := decide_eq_false hlt
      have HP := Lib.hid (HG.out.all (by rw [HL.out]; omega))
      obtain ⟨a', c', rfl, hc', ho'⟩ := HOWN.out.ops (fun u hu => (HOK.out u hu).1) (by omega)
      have HO := Lib.hid ho'
      clear HOWN HG HOK ho'
      go_wp2
      try rw [Exit.noGoto_ret]
      refine bodyPost_ret (v := .tuple #[.slice a' m c', .int .i64 0, .int .i64 0]) (by simp [results, Tryd.results12, go_sem]) rfl ?_
      exact ⟨a', m, c', us, by rw [HP.out], hc', HO.out, by rw [HP.out], HBW.out⟩
end Go.Proofs.YtjnnblcafocdoaaDoor
