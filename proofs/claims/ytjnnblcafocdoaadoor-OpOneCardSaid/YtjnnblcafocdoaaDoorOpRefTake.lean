/-
  The document's own Take of package op (almeryref19.Take), met by a contract: the plain 'takeOut'.
-/
import Derived.Test.YtjnnblcafocdoaaDoorOpRef
import Derived.Test.YtjnnblcafocdoaaDoorHeldCut
import Derived.Deep.QuietTactic
import Derived.BigQuiet
namespace Go.Proofs.YtjnnblcafocdoaaDoor
open Go.ChangeShapes Go.WideShapes Go.ChangeAt Go.RowKit

theorem cutm {T G : Prop} (a : T) (b : T → G) : G := b a
/-- It returns operations, a place, and a number of what is wrong; all memory that was there is as it was. -/
def TakeEnd (b : List Int) (w : World) (e : Ending) (w' : World) : Prop := ∃ a n c us, e = .returned (.tuple #[.slice a n c, .int .i64 (takeOut b).2.1, .int .i64 (takeOut b).2.2]) ∧ n ≤ c ∧ Ops w' w'.heap.size a n us ∧ us.map Ov.op = (takeOut b).1 ∧ Below w.heap.size w w'
/-- How far Take has come: at place p, behind these operations. -/
def Got (b : List Int) (p : Nat) (pre : List Opn) : Prop := p ≤ b.length ∧ takeL b = (pre ++ (takeL (b.drop p)).1, (takeL (b.drop p)).2.map (· + p))
theorem Got.zero (b : List Int) : Got b 0 [] := ⟨Nat.zero_le _, by simp⟩
theorem Got.next {b : List Int} {p : Nat} {pre : List Opn} (h : Got b p pre) {o : Opn} (hp : parse1 (b.drop p) = some o) (hl : p + (27 + o.bs.length) ≤ b.length) : Got b (p + (27 + o.bs.length)) (pre ++ [o]) := by
  have hne : b.drop p ≠ [] := fun e => by have := congrArg List.length e; rw [List.length_drop] at this; simp at this; omega
  refine ⟨hl, ?_⟩
  rw [h.2, takeL_one hne hp, List.drop_drop]
  simp only [List.append_assoc, List.cons_append, List.nil_append, Option.map_map]
  congr 2
  funext q
  simp only [Function.comp]
  omega
theorem Got.bad {b : List Int} {p : Nat} {pre : List Opn} (h : Got b p pre) (hl : p < b.length) (hp : parse1 (b.drop p) = none) : takeOut b = ([], (p : Int), 2) := by
  have hne : b.drop p ≠ [] := fun e => by have := congrArg List.length e; rw [List.length_drop] at this; simp at this; omega
  unfold takeOut
  rw [h.2, takeL_bad hne hp]
  simp
theorem Got.all {b : List Int} {p : Nat} {pre : List Opn} (h : Got b p pre) (hl : ¬ p < b.length) : takeOut b = (pre, 0, 0) := by
  have e : b.drop p = [] := List.drop_eq_nil_of_le (by omega)
  unfold takeOut
  rw [h.2, e, takeL_nil]
  simp
theorem sub_drop (b : List Int) (p i k : Nat) : sub (b.drop p) i k = sub b (p + i) k := by unfold sub; rw [List.drop_drop]
theorem parse_short {b : List Int} {p : Nat} (h : b.length - p < 27) : parse1 (b.drop p) = none := by unfold parse1; rw [List.length_drop, if_pos h]
theorem lenAt_drop {b : List Int} {p m : Nat} {x y : Int} (hx : b[p + 25]? = some x) (hy : b[p + 26]? = some y) (hm : (m : Int) = x + 256 * y) : lenAt (b.drop p) = m := by
  unfold lenAt
  rw [List.getElem?_drop, List.getElem?_drop, hx, hy]
  simp only [Option.getD_some]
  omega
theorem parse_long {b : List Int} {p m : Nat} (h : ¬ b.length - p < 27) (hm : lenAt (b.drop p) = m) (hl : b.length - p - 27 < m) : parse1 (b.drop p) = none := by unfold parse1; rw [List.length_drop, if_neg h, hm, if_pos hl]
/-- The operation at place p. -/
def opAtP (b : List Int) (p m : Nat) (k : Int) : Opn := ⟨k, i64 (wordOf (sub b (p + 1) 8)), i64 (wordOf (sub b (p + 9) 8)), i64 (wordOf (sub b (p + 17) 8)), sub b (p + 27) m⟩
theorem opAt_drop {b : List Int} {p m : Nat} {k : Int} (hm : lenAt (b.drop p) = m) (hk : b[p]? = some k) : opAt (b.drop p) = opAtP b p m k := by
  unfold opAt opAtP
  rw [hm, sub_drop, sub_drop, sub_drop, sub_drop, List.getElem?_drop, Nat.add_zero, hk]
  rfl
theorem parse_may {b : List Int} {p m : Nat} {k : Int} (h : ¬ b.length - p < 27) (hm : lenAt (b.drop p) = m) (hl : ¬ b.length - p - 27 < m) (hk : b[p]? = some k) : parse1 (b.drop p) = if mayO (opAtP b p m k) = true then some (opAtP b p m k) else none := by
  unfold parse1
  rw [List.length_drop, if_neg h, hm, if_neg hl, opAt_drop hm hk]
/-- A cut with both ends told as ints. -/
theorem cut_ints {b o n c i k : Nat} {I J : Int} (hI : (i : Int) = I) (hJ : ((i : Int) + (k : Int)) = J) (hk : i + k ≤ c) :
    ∃ o' c', (0 < k → o' = o + i) ∧ k ≤ c' ∧ ∀ v, (Instr.sliceAt 25 (.slice (some ⟨b, o, none⟩) n c) (some (.int .i64 I)) (some (.int .i64 J)) none).run Tryd.prog v = .ok (.slice (some ⟨b, o', none⟩) k c') v := by
  subst hI hJ
  exact cut_lh hk
theorem Bytes.cut {w : World} {B b o n : Nat} {xs : List Int} (h : Bytes w B (some ⟨b, o, none⟩) n xs) {i k o' : Nat} (hk : i + k ≤ n) (ho : 0 < k → o' = o + i) : Bytes w B (some ⟨b, o', none⟩) k (sub xs i k) := by
  have hl := h.len
  have hm := h.max
  refine ⟨length_sub _ _ _ (by omega), by omega, h.fit.sub _ _, fun h0 => ?_⟩
  obtain ⟨b', o2, e, hb, hc⟩ := h.head (by omega)
  injection e with e
  injection e with e1 e2
  subst e1 e2
  refine ⟨b, o', rfl, hb, fun j s hs => ?_⟩
  have hj : j < k := by have := (List.getElem?_eq_some_iff.1 hs).1; rwa [length_sub _ _ _ (by omega)] at this
  rw [sub_get hj] at hs
  rw [ho h0, Nat.add_assoc]
  exact hc _ s hs

set_option maxRecDepth 20000 in
set_option maxHeartbeats 4000000 in
theorem refTake19_any (a : Option Addr) (n c : Nat) (b : List Int) (w : World) (hb : Bytes w w.heap.size a n b) (hnc : n ≤ c) (hn : n ≤ 100000) :
    Calls Tryd.prog 13 #[.slice a n c] w (TakeEnd b w) := by
  have HL := Lib.hid hb.len
  have hnm : n ≤ 9223372036854775807 := by omega
  go_enter Tryd.func13, Tryd.ntmps13
  go_wp2
  go_loopw [5, 6] (fun v i wr => ∃ (p m : Nat) (us : List Ov), i = .int .i64 p ∧ p ≤ n ∧ Got b p (us.map Ov.op) ∧ OwnO wr w.heap.size v m us ∧ m ≤ p ∧ (∀ u ∈ us, u.ok wr w.heap.size) ∧ Below w.heap.size w wr) (fun _ i _ => n - (intOf i).toNat)
  case atStart => exact ⟨0, 0, [], rfl, by omega, Got.zero _, OwnO.nil _ _, by omega, fun u hu => by simp at hu, Below.refl _ _⟩
  case round =>
    obtain ⟨p, m, us, rfl, hp, hgot, hown, hmp, hok, hbw⟩ := hrel
    by_cases hlt : p < n
    · have HG := Lib.hid hgot
      have HOWN := Lib.hid hown
      have HOK := Lib.hid hok
      have HBW := Lib.hid hbw
      clear hgot hown hok hbw
      by_cases hsh : n - p < 27
      · have dsh : decide ((n : Int) - (p : Int) < 27) = true := decide_eq_true (by omega)
        have HP := Lib.hid (HG.out.bad (by rw [HL.out]; omega) (parse_short (by rw [HL.out]; exact hsh)))
        go_wp2
        refine bodyPost_ret (v := .tuple #[.slice none 0 0, .int .i64 (p : Int), .int .i64 2]) (by simp [results, Tryd.results13, go_sem]) rfl ?_
        exact ⟨none, 0, 0, [], by rw [HP.out], by omega, Ops.empty _ _ _, by rw [HP.out]; rfl, HBW.out⟩
      · have dsh : decide ((n : Int) - (p : Int) < 27) = false := decide_eq_false (by omega)
        have hw := hb.below HBW.out
        obtain ⟨k, hk, k0, k1⟩ := hw.at_ (k := p) hlt
        obtain ⟨x, hx, xx0, xx1⟩ := hw.at_ (k := p + 25) (by omega)
        obtain ⟨y, hy, yy0, yy1⟩ := hw.at_ (k := p + 26) (by omega)
        obtain ⟨bb, oo, rfl, hbB, hcl⟩ := hw.head (by omega)
        have ck := hcl _ _ hk
        have cx := hcl _ _ hx
        have cy := hcl _ _ hy
        obtain ⟨q, hq⟩ : ∃ q : Nat, (q : Int) = x + 256 * y := ⟨(x + 256 * y).toNat, by omega⟩
        have HLN := Lib.hid (lenAt_drop hx hy hq)
        have HK := Lib.hid hk
        have HW := Lib.hid hw
        have q1 : q ≤ 65535 := by omega
        have w1 : IntKind.i64.wrap (x + 256 * y) = (q : Int) := by rw [hq]; exact IntWalk.i64_in _ (by omega)
        clear hk hx hy hcl hw
        have hA : IntKind.i64.wrap ((p : Int) + 25) = ((p + 25 : Nat) : Int) := by rw [IntWalk.i64_in _ (by omega)]; simp
        have hB : IntKind.i64.wrap ((p : Int) + 26) = ((p + 26 : Nat) : Int) := by rw [IntWalk.i64_in _ (by omega)]; simp
        have i1 : p + 25 < n := by omega
        have i2 : p + 26 < n := by omega
        obtain ⟨pa, hpa⟩ : ∃ pa, pa = p + 25 := ⟨_, rfl⟩
        obtain ⟨pb, hpb⟩ : ∃ pb, pb = p + 26 := ⟨_, rfl⟩
        rw [← hpa] at hA i1 cx
        rw [← hpb] at hB i2 cy
        clear hpa hpb
        by_cases hlong : n - p - 27 < q
        · have dl : decide ((n : Int) - (p : Int) - 27 < x + 256 * y) = true := decide_eq_true (by omega)
          have HP := Lib.hid (HG.out.bad (by rw [HL.out]; omega) (parse_long (by rw [HL.out]; exact hsh) HLN.out (by rw [HL.out]; exact hlong)))
          go_wp2_with fail
          go_quiet (fail)
          go_wp2
          refine bodyPost_ret (v := .tuple #[.slice none 0 0, .int .i64 (p : Int), .int .i64 2]) (by simp [results, Tryd.results13, go_sem]) rfl ?_
          exact ⟨none, 0, 0, [], by rw [HP.out], by omega, Ops.empty _ _ _, by rw [HP.out]; rfl, belowN HBW.out _⟩
        · have dl : decide ((n : Int) - (p : Int) - 27 < x + 256 * y) = false := decide_eq_false (by omega)
          have HPM := Lib.hid (parse_may (k := k) (by rw [HL.out]; exact hsh) HLN.out (by rw [HL.out]; exact hlong) HK.out)
          have hfits : p + 27 + q ≤ n := by omega
          obtain ⟨o1, c1, ho1, hc1, cut1⟩ := cut_ints (b := bb) (o := oo) (n := n) (c := c) (i := p + 1) (k := 8) (I := IntKind.i64.wrap ((p : Int) + 1)) (J := IntKind.i64.wrap ((p : Int) + 9)) (by rw [IntWalk.i64_in _ (by omega)]; simp) (by rw [IntWalk.i64_in _ (by omega)]; omega) (by omega)
          obtain ⟨o2, c2, ho2, hc2, cut2⟩ := cut_ints (b := bb) (o := oo) (n := n) (c := c) (i := p + 9) (k := 8) (I := IntKind.i64.wrap ((p : Int) + 9)) (J := IntKind.i64.wrap ((p : Int) + 17)) (by rw [IntWalk.i64_in _ (by omega)]; simp) (by rw [IntWalk.i64_in _ (by omega)]; omega) (by omega)
          obtain ⟨o3, c3, ho3, hc3, cut3⟩ := cut_ints (b := bb) (o := oo) (n := n) (c := c) (i := p + 17) (k := 8) (I := IntKind.i64.wrap ((p : Int) + 17)) (J := IntKind.i64.wrap ((p : Int) + 25)) (by rw [IntWalk.i64_in _ (by omega)]; simp) (by rw [IntWalk.i64_in _ (by omega)]; omega) (by omega)
          obtain ⟨o4, c4, ho4, hc4, cut4⟩ := cut_ints (b := bb) (o := oo) (n := n) (c := c) (i := p + 27) (k := q) (I := IntKind.i64.wrap ((p : Int) + 27)) (J := IntKind.i64.wrap (IntKind.i64.wrap ((p : Int) + 27) + (x + 256 * y))) (by rw [IntWalk.i64_in _ (by omega)]; simp) (by rw [IntWalk.i64_in ((p : Int) + 27) (by omega), IntWalk.i64_in _ (by omega)]; omega) (by omega)
          go_wp2_with fail
          go_quiet (fail)
          go_wp2_with fail
          obtain ⟨W, hW⟩ : ∃ W, W = wr.drewN nq := ⟨_, rfl⟩
          have bW : Below wr.heap.size wr W := by rw [hW]; exact belowN (Below.refl _ _) _
          rw [← hW]
          clear hW
          have le1 : w.heap.size ≤ wr.heap.size := HBW.out.size
          have HWW := Lib.hid (HW.out.below (bW.mono le1))
          have n1 := Lib.hid (HWW.out.cut (i := p + 1) (k := 8) (by omega) ho1)
          have n2 := Lib.hid (HWW.out.cut (i := p + 9) (k := 8) (by omega) ho2)
          have n3 := Lib.hid (HWW.out.cut (i := p + 17) (k := 8) (by omega) ho3)
          have n4 := Lib.hid (HWW.out.cut (i := p + 27) (k := q) (by omega) ho4)
          have HR1 := Lib.hid (fun v (hv : Below W.heap.size W v) => refRead19_any bb o1 c1 _ _ v (n1.out.below (hv.mono (Nat.le_trans le1 bW.size))))
          have HR2 := Lib.hid (fun v (hv : Below W.heap.size W v) => refRead19_any bb o2 c2 _ _ v (n2.out.below (hv.mono (Nat.le_trans le1 bW.size))))
          have HR3 := Lib.hid (fun v (hv : Below W.heap.size W v) => refRead19_any bb o3 c3 _ _ v (n3.out.below (hv.mono (Nat.le_trans le1 bW.size))))
          have J1 := Lib.hid (numL_word n1.out.fit n1.out.len).2
          have J2 := Lib.hid (numL_word n2.out.fit n2.out.len).2
          have J3 := Lib.hid (numL_word n3.out.fit n3.out.len).2
          have HN4 := Lib.hid n4.out.len
          have EO : Hid (opAtP b p q k = (⟨k, i64 (wordOf (sub b (p + 1) 8)), i64 (wordOf (sub b (p + 9) 8)), i64 (wordOf (sub b (p + 17) 8)), some ⟨bb, o4, none⟩, q, c4, sub b (p + 27) q⟩ : Ov).op) := Lib.hid rfl
          generalize i64 (wordOf (sub b (p + 1) 8)) = m1 at HR1 J1 EO
          generalize i64 (wordOf (sub b (p + 9) 8)) = m2 at HR2 J2 EO
          generalize i64 (wordOf (sub b (p + 17) 8)) = m3 at HR3 J3 EO
          generalize sub b (p + 27) q = bs4 at n4 HN4 EO
          have kW : W.cell? ⟨bb, oo + p, none⟩ = some (.int .u8 k) := (bW.cell (p := ⟨bb, oo + p, none⟩) (Nat.lt_of_lt_of_le hbB le1)).trans ck
          have hbW : bb < W.heap.size := Nat.lt_of_lt_of_le hbB (Nat.le_trans le1 bW.size)
          have KA : Hid (∀ v : World, Below W.heap.size W v → v.cell? ⟨bb, oo + p, none⟩ = some (.int .u8 k)) := Lib.hid fun v hv => (hv.cell (p := ⟨bb, oo + p, none⟩) hbW).trans kW
          have bD : Below W.heap.size W W.drew := belowD (Below.refl _ _)
          have k1 : Hid (∀ o, Below W.heap.size W (W.alloc o).drew) := Lib.hid fun o => belowD (below1 W o)
          clear hA hB i1 i2 w1 dl dsh ck cx cy HW n1 n2 n3 ho1 ho2 ho3 ho4 hc1 hc2 hc3
          refine cutm (T := ?T) ?later ?region
          case region =>
            intro key
            refine wp_region_held_drew (S := fun v => v.cell? ⟨bb, oo + p, none⟩ = some (.int .u8 k)) (by kernel_rfl) kW (fun hHeld => ?_)
            refine held_on (i := 0) (v := ?_) rfl (by kernel_rfl) (by kernel_rfl) (by kernel_rfl) (fun _ _ _ h => h) ?_ ?_ (by assumption) ?_
            rotate_left 1
            · rfl
            · intro w hSw; (try dsimp only at hSw); go_simp; try with_reducible rfl
            try simp only [Act.put, List.setIfInBounds_toArray, List.set_cons_zero, List.set_cons_succ, List.getElem_toArray, List.getElem_cons_zero]
            refine held_on (i := 1) (v := ?_) rfl (by kernel_rfl) (by kernel_rfl) (by kernel_rfl) (fun _ _ _ h => h) ?_ ?_ (by assumption) ?_
            rotate_left 1
            · rfl
            · intro w hSw; (try dsimp only at hSw); go_simp; try with_reducible rfl
            try simp only [Act.put, List.setIfInBounds_toArray, List.set_cons_zero, List.set_cons_succ, List.getElem_toArray, List.getElem_cons_zero, List.getElem_cons_succ]
            refine held_on (i := 2) (v := ?_) rfl (by kernel_rfl) (by kernel_rfl) (by kernel_rfl) (fun _ _ _ h => h) ?_ ?_ (by assumption) ?_
            rotate_left 1
            · rfl
            · intro w hSw; (try dsimp only at hSw); go_simp; try with_reducible rfl
            try simp only [Act.put, List.setIfInBounds_toArray, List.set_cons_zero, List.set_cons_succ, List.getElem_toArray, List.getElem_cons_zero, List.getElem_cons_succ]
            refine held_on (i := 3) (v := ?_) rfl (by kernel_rfl) (by kernel_rfl) (by kernel_rfl) (fun _ _ _ h => h) ?_ ?_ (by assumption) ?_
            rotate_left 1
            · rfl
            · intro w hSw; (try dsimp only at hSw); go_simp; try with_reducible rfl
            try simp only [Act.put, List.setIfInBounds_toArray, List.set_cons_zero, List.set_cons_succ, List.getElem_toArray, List.getElem_cons_zero, List.getElem_cons_succ]
            refine held_on (i := 4) (v := ?_) rfl (by kernel_rfl) (by kernel_rfl) (by kernel_rfl) (fun _ _ _ h => h) ?_ ?_ (by assumption) ?_
            rotate_left 1
            · rfl
            · intro w hSw; (try dsimp only at hSw); go_simp; try with_reducible rfl
            try simp only [Act.put, List.setIfInBounds_toArray, List.set_cons_zero, List.set_cons_succ, List.getElem_toArray, List.getElem_cons_zero, List.getElem_cons_succ]
            refine held_on (i := 5) (v := ?_) rfl (by kernel_rfl) (by kernel_rfl) (by kernel_rfl) (fun _ _ _ h => h) ?_ ?_ (by assumption) ?_
            rotate_left 1
            · rfl
            · intro w hSw; (try dsimp only at hSw); go_simp; try with_reducible rfl
            try simp only [Act.put, List.setIfInBounds_toArray, List.set_cons_zero, List.set_cons_succ, List.getElem_toArray, List.getElem_cons_zero, List.getElem_cons_succ]
            refine held_on (i := 6) (v := ?_) rfl (by kernel_rfl) (by kernel_rfl) (by kernel_rfl) (fun _ _ _ h => h) ?_ ?_ (by assumption) ?_
            rotate_left 1
            · rfl
            · intro w hSw; (try dsimp only at hSw); go_simp; try with_reducible rfl
            try simp only [Act.put, List.setIfInBounds_toArray, List.set_cons_zero, List.set_cons_succ, List.getElem_toArray, List.getElem_cons_zero, List.getElem_cons_succ]
            refine held_on (i := 7) (v := ?_) rfl (by kernel_rfl) (by kernel_rfl) (by kernel_rfl) (fun _ _ _ h => h) ?_ ?_ (by assumption) ?_
            rotate_left 1
            · rfl
            · intro w hSw; (try dsimp only at hSw); go_simp; try with_reducible rfl
            try simp only [Act.put, List.setIfInBounds_toArray, List.set_cons_zero, List.set_cons_succ, List.getElem_toArray, List.getElem_cons_zero, List.getElem_cons_succ]
            refine held_on (i := 8) (v := ?_) rfl (by kernel_rfl) (by kernel_rfl) (by kernel_rfl) (fun _ _ _ h => h) ?_ ?_ (by assumption) ?_
            rotate_left 1
            · rfl
            · intro w hSw; (try dsimp only at hSw); go_simp; try with_reducible rfl
            try simp only [Act.put, List.setIfInBounds_toArray, List.set_cons_zero, List.set_cons_succ, List.getElem_toArray, List.getElem_cons_zero, List.getElem_cons_succ]
            refine held_on (i := 9) (v := ?_) rfl (by kernel_rfl) (by kernel_rfl) (by kernel_rfl) (fun _ _ _ h => h) ?_ ?_ (by assumption) ?_
            rotate_left 1
            · rfl
            · intro w hSw; (try dsimp only at hSw); go_simp; try with_reducible rfl
            try simp only [Act.put, List.setIfInBounds_toArray, List.set_cons_zero, List.set_cons_succ, List.getElem_toArray, List.getElem_cons_zero, List.getElem_cons_succ]
            refine held_cut (i := 10) (v := .slice (some ⟨bb, o1, none⟩) 8 c1) rfl (by kernel_rfl) (by kernel_rfl) (by kernel_rfl) (fun _ _ _ h => h) ?_ rfl rfl rfl rfl cut1 (by assumption) ?_
            · rfl
            try simp only [Act.put, List.setIfInBounds_toArray, List.set_cons_zero, List.set_cons_succ, List.getElem_toArray, List.getElem_cons_zero, List.getElem_cons_succ]
            refine held_on (i := 12) (v := ?_) rfl (by kernel_rfl) (by kernel_rfl) (by kernel_rfl) (fun _ _ _ h => h) ?_ ?_ (by assumption) ?_
            rotate_left 1
            · rfl
            · intro w hSw; (try dsimp only at hSw); go_simp; try with_reducible rfl
            try simp only [Act.put, List.setIfInBounds_toArray, List.set_cons_zero, List.set_cons_succ, List.getElem_toArray, List.getElem_cons_zero, List.getElem_cons_succ]
            refine held_on (i := 13) (v := ?_) rfl (by kernel_rfl) (by kernel_rfl) (by kernel_rfl) (fun _ _ _ h => h) ?_ ?_ (by assumption) ?_
            rotate_left 1
            · rfl
            · intro w hSw; (try dsimp only at hSw); go_simp; try with_reducible rfl
            try simp only [Act.put, List.setIfInBounds_toArray, List.set_cons_zero, List.set_cons_succ, List.getElem_toArray, List.getElem_cons_zero, List.getElem_cons_succ]
            refine held_on (i := 14) (v := ?_) rfl (by kernel_rfl) (by kernel_rfl) (by kernel_rfl) (fun _ _ _ h => h) ?_ ?_ (by assumption) ?_
            rotate_left 1
            · rfl
            · intro w hSw; (try dsimp only at hSw); go_simp; try with_reducible rfl
            try simp only [Act.put, List.setIfInBounds_toArray, List.set_cons_zero, List.set_cons_succ, List.getElem_toArray, List.getElem_cons_zero, List.getElem_cons_succ]
            refine held_on (i := 15) (v := ?_) rfl (by kernel_rfl) (by kernel_rfl) (by kernel_rfl) (fun _ _ _ h => h) ?_ ?_ (by assumption) ?_
            rotate_left 1
            · rfl
            · intro w hSw; (try dsimp only at hSw); go_simp; try with_reducible rfl
            try simp only [Act.put, List.setIfInBounds_toArray, List.set_cons_zero, List.set_cons_succ, List.getElem_toArray, List.getElem_cons_zero, List.getElem_cons_succ]
            refine held_on (i := 16) (v := ?_) rfl (by kernel_rfl) (by kernel_rfl) (by kernel_rfl) (fun _ _ _ h => h) ?_ ?_ (by assumption) ?_
            rotate_left 1
            · rfl
            · intro w hSw; (try dsimp only at hSw); go_simp; try with_reducible rfl
            try simp only [Act.put, List.setIfInBounds_toArray, List.set_cons_zero, List.set_cons_succ, List.getElem_toArray, List.getElem_cons_zero, List.getElem_cons_succ]
            refine held_cut (i := 17) (v := .slice (some ⟨bb, o2, none⟩) 8 c2) rfl (by kernel_rfl) (by kernel_rfl) (by kernel_rfl) (fun _ _ _ h => h) ?_ rfl rfl rfl rfl cut2 (by assumption) ?_
            · rfl
            try simp only [Act.put, List.setIfInBounds_toArray, List.set_cons_zero, List.set_cons_succ, List.getElem_toArray, List.getElem_cons_zero, List.getElem_cons_succ]
            refine held_on (i := 19) (v := ?_) rfl (by kernel_rfl) (by kernel_rfl) (by kernel_rfl) (fun _ _ _ h => h) ?_ ?_ (by assumption) ?_
            rotate_left 1
            · rfl
            · intro w hSw; (try dsimp only at hSw); go_simp; try with_reducible rfl
            try simp only [Act.put, List.setIfInBounds_toArray, List.set_cons_zero, List.set_cons_succ, List.getElem_toArray, List.getElem_cons_zero, List.getElem_cons_succ]
            refine held_on (i := 20) (v := ?_) rfl (by kernel_rfl) (by kernel_rfl) (by kernel_rfl) (fun _ _ _ h => h) ?_ ?_ (by assumption) ?_
            rotate_left 1
            · rfl
            · intro w hSw; (try dsimp only at hSw); go_simp; try with_reducible rfl
            try simp only [Act.put, List.setIfInBounds_toArray, List.set_cons_zero, List.set_cons_succ, List.getElem_toArray, List.getElem_cons_zero, List.getElem_cons_succ]
            refine held_on (i := 21) (v := ?_) rfl (by kernel_rfl) (by kernel_rfl) (by kernel_rfl) (fun _ _ _ h => h) ?_ ?_ (by assumption) ?_
            rotate_left 1
            · rfl
            · intro w hSw; (try dsimp only at hSw); go_simp; try with_reducible rfl
            try simp only [Act.put, List.setIfInBounds_toArray, List.set_cons_zero, List.set_cons_succ, List.getElem_toArray, List.getElem_cons_zero, List.getElem_cons_succ]
            refine held_on (i := 22) (v := ?_) rfl (by kernel_rfl) (by kernel_rfl) (by kernel_rfl) (fun _ _ _ h => h) ?_ ?_ (by assumption) ?_
            rotate_left 1
            · rfl
            · intro w hSw; (try dsimp only at hSw); go_simp; try with_reducible rfl
            try simp only [Act.put, List.setIfInBounds_toArray, List.set_cons_zero, List.set_cons_succ, List.getElem_toArray, List.getElem_cons_zero, List.getElem_cons_succ]
            refine held_on (i := 23) (v := ?_) rfl (by kernel_rfl) (by kernel_rfl) (by kernel_rfl) (fun _ _ _ h => h) ?_ ?_ (by assumption) ?_
            rotate_left 1
            · rfl
            · intro w hSw; (try dsimp only at hSw); go_simp; try with_reducible rfl
            try simp only [Act.put, List.setIfInBounds_toArray, List.set_cons_zero, List.set_cons_succ, List.getElem_toArray, List.getElem_cons_zero, List.getElem_cons_succ]
            refine held_cut (i := 24) (v := .slice (some ⟨bb, o3, none⟩) 8 c3) rfl (by kernel_rfl) (by kernel_rfl) (by kernel_rfl) (fun _ _ _ h => h) ?_ rfl rfl rfl rfl cut3 (by assumption) ?_
            · rfl
            try simp only [Act.put, List.setIfInBounds_toArray, List.set_cons_zero, List.set_cons_succ, List.getElem_toArray, List.getElem_cons_zero, List.getElem_cons_succ]
            refine held_on (i := 26) (v := ?_) rfl (by kernel_rfl) (by kernel_rfl) (by kernel_rfl) (fun _ _ _ h => h) ?_ ?_ (by assumption) ?_
            rotate_left 1
            · rfl
            · intro w hSw; (try dsimp only at hSw); go_simp; try with_reducible rfl
            try simp only [Act.put, List.setIfInBounds_toArray, List.set_cons_zero, List.set_cons_succ, List.getElem_toArray, List.getElem_cons_zero, List.getElem_cons_succ]
            refine held_on (i := 27) (v := ?_) rfl (by kernel_rfl) (by kernel_rfl) (by kernel_rfl) (fun _ _ _ h => h) ?_ ?_ (by assumption) ?_
            rotate_left 1
            · rfl
            · intro w hSw; (try dsimp only at hSw); go_simp; try with_reducible rfl
            try simp only [Act.put, List.setIfInBounds_toArray, List.set_cons_zero, List.set_cons_succ, List.getElem_toArray, List.getElem_cons_zero, List.getElem_cons_succ]
            refine held_on (i := 28) (v := ?_) rfl (by kernel_rfl) (by kernel_rfl) (by kernel_rfl) (fun _ _ _ h => h) ?_ ?_ (by assumption) ?_
            rotate_left 1
            · rfl
            · intro w hSw; (try dsimp only at hSw); go_simp; try with_reducible rfl
            try simp only [Act.put, List.setIfInBounds_toArray, List.set_cons_zero, List.set_cons_succ, List.getElem_toArray, List.getElem_cons_zero, List.getElem_cons_succ]
            refine held_on (i := 29) (v := ?_) rfl (by kernel_rfl) (by kernel_rfl) (by kernel_rfl) (fun _ _ _ h => h) ?_ ?_ (by assumption) ?_
            rotate_left 1
            · rfl
            · intro w hSw; (try dsimp only at hSw); go_simp; try with_reducible rfl
            try simp only [Act.put, List.setIfInBounds_toArray, List.set_cons_zero, List.set_cons_succ, List.getElem_toArray, List.getElem_cons_zero, List.getElem_cons_succ]
            refine held_on (i := 30) (v := ?_) rfl (by kernel_rfl) (by kernel_rfl) (by kernel_rfl) (fun _ _ _ h => h) ?_ ?_ (by assumption) ?_
            rotate_left 1
            · rfl
            · intro w hSw; (try dsimp only at hSw); go_simp; try with_reducible rfl
            try simp only [Act.put, List.setIfInBounds_toArray, List.set_cons_zero, List.set_cons_succ, List.getElem_toArray, List.getElem_cons_zero, List.getElem_cons_succ]
            refine held_on (i := 31) (v := ?_) rfl (by kernel_rfl) (by kernel_rfl) (by kernel_rfl) (fun _ _ _ h => h) ?_ ?_ (by assumption) ?_
            rotate_left 1
            · rfl
            · intro w hSw; (try dsimp only at hSw); go_simp; try with_reducible rfl
            try simp only [Act.put, List.setIfInBounds_toArray, List.set_cons_zero, List.set_cons_succ, List.getElem_toArray, List.getElem_cons_zero, List.getElem_cons_succ]
            refine held_on (i := 32) (v := ?_) rfl (by kernel_rfl) (by kernel_rfl) (by kernel_rfl) (fun _ _ _ h => h) ?_ ?_ (by assumption) ?_
            rotate_left 1
            · rfl
            · intro w hSw; (try dsimp only at hSw); go_simp; try with_reducible rfl
            try simp only [Act.put, List.setIfInBounds_toArray, List.set_cons_zero, List.set_cons_succ, List.getElem_toArray, List.getElem_cons_zero, List.getElem_cons_succ]
            refine held_cut (i := 33) (v := .slice (some ⟨bb, o4, none⟩) q c4) rfl (by kernel_rfl) (by kernel_rfl) (by kernel_rfl) (fun _ _ _ h => h) ?_ rfl rfl rfl rfl cut4 (by assumption) ?_
            · rfl
            try simp only [Act.put, List.setIfInBounds_toArray, List.set_cons_zero, List.set_cons_succ, List.getElem_toArray, List.getElem_cons_zero, List.getElem_cons_succ]
            refine wpAnyH_ready (rs := [11, 35]) (by kernel_rfl) (by simp) ?_
            refine AllReadyH.cons rfl ?c1 (AllReadyH.cons rfl ?a1 AllReadyH.nil)
            case' c1 =>
              intro K hK
              go_simp
              refine (HR1.out _ (bD)).mono ?_
              rintro e u1 ⟨rfl, rfl⟩
              refine hK.out _ _ (KA.out _ (bD)) (fun _ => ?_)
              clear hK K
              refine wpAnyH_ready (rs := [18, 35]) (by kernel_rfl) (by simp) ?_
              refine AllReadyH.cons rfl ?c2 (AllReadyH.cons rfl ?a2 AllReadyH.nil)
            case' c2 =>
              intro K hK
              go_simp
              refine (HR2.out _ (bD)).mono ?_
              rintro e u2 ⟨rfl, rfl⟩
              refine hK.out _ _ (KA.out _ (bD)) (fun _ => ?_)
              clear hK K
              refine wpAnyH_ready (rs := [25, 35]) (by kernel_rfl) (by simp) ?_
              refine AllReadyH.cons rfl ?c3 (AllReadyH.cons rfl ?a3 AllReadyH.nil)
            case' c3 =>
              intro K hK
              go_simp
              refine (HR3.out _ (bD)).mono ?_
              rintro e u3 ⟨rfl, rfl⟩
              refine hK.out _ _ (KA.out _ (bD)) (fun _ => ?_)
              clear hK K
              refine held_on (i := 34) (v := ?_) rfl (by kernel_rfl) (by kernel_rfl) (by kernel_rfl) (fun _ _ _ h => h) ?_ ?_ (by assumption) ?_
              rotate_left 1
              · rfl
              · intro w hSw; (try dsimp only at hSw); go_simp; try with_reducible rfl
              try simp only [Act.put, List.setIfInBounds_toArray, List.set_cons_zero, List.set_cons_succ, List.getElem_toArray, List.getElem_cons_zero, List.getElem_cons_succ]
              refine wpAnyH_ready (rs := [35]) (by kernel_rfl) (by simp) ?_
              refine AllReadyH.cons rfl ?_ AllReadyH.nil
              intro K hK
              go_simp
              refine hK.out _ _ (KA.out _ (k1.out _)) (fun _ => ?_)
              clear hK K
            case' a3 =>
              intro K hK
              go_simp
              refine hK.out _ _ (KA.out _ (k1.out _)) (fun _ => ?_)
              clear hK K
              refine wpAnyH_ready (rs := [25]) (by kernel_rfl) (by simp) ?_
              refine AllReadyH.cons rfl ?_ AllReadyH.nil
              intro K hK
              go_simp
              refine (HR3.out _ (k1.out _)).mono ?_
              rintro e u3 ⟨rfl, rfl⟩
              refine hK.out _ _ (KA.out _ (k1.out _)) (fun _ => ?_)
              clear hK K
              refine held_on (i := 34) (v := ?_) rfl (by kernel_rfl) (by kernel_rfl) (by kernel_rfl) (fun _ _ _ h => h) ?_ ?_ (by assumption) ?_
              rotate_left 1
              · rfl
              · intro w hSw; (try dsimp only at hSw); go_simp; try with_reducible rfl
              try simp only [Act.put, List.setIfInBounds_toArray, List.set_cons_zero, List.set_cons_succ, List.getElem_toArray, List.getElem_cons_zero, List.getElem_cons_succ]
            case' a2 =>
              intro K hK
              go_simp
              refine hK.out _ _ (KA.out _ (k1.out _)) (fun _ => ?_)
              clear hK K
              refine wpAnyH_ready (rs := [18]) (by kernel_rfl) (by simp) ?_
              refine AllReadyH.cons rfl ?_ AllReadyH.nil
              intro K hK
              go_simp
              refine (HR2.out _ (k1.out _)).mono ?_
              rintro e u2 ⟨rfl, rfl⟩
              refine hK.out _ _ (KA.out _ (k1.out _)) (fun _ => ?_)
              clear hK K
              refine wpAnyH_ready (rs := [25]) (by kernel_rfl) (by simp) ?_
              refine AllReadyH.cons rfl ?_ AllReadyH.nil
              intro K hK
              go_simp
              refine (HR3.out _ (k1.out _)).mono ?_
              rintro e u3 ⟨rfl, rfl⟩
              refine hK.out _ _ (KA.out _ (k1.out _)) (fun _ => ?_)
              clear hK K
              refine held_on (i := 34) (v := ?_) rfl (by kernel_rfl) (by kernel_rfl) (by kernel_rfl) (fun _ _ _ h => h) ?_ ?_ (by assumption) ?_
              rotate_left 1
              · rfl
              · intro w hSw; (try dsimp only at hSw); go_simp; try with_reducible rfl
              try simp only [Act.put, List.setIfInBounds_toArray, List.set_cons_zero, List.set_cons_succ, List.getElem_toArray, List.getElem_cons_zero, List.getElem_cons_succ]
            case' a1 =>
              intro K hK
              go_simp
              refine hK.out _ _ (KA.out _ (k1.out _)) (fun _ => ?_)
              clear hK K
              refine wpAnyH_ready (rs := [11]) (by kernel_rfl) (by simp) ?_
              refine AllReadyH.cons rfl ?_ AllReadyH.nil
              intro K hK
              go_simp
              refine (HR1.out _ (k1.out _)).mono ?_
              rintro e u1 ⟨rfl, rfl⟩
              refine hK.out _ _ (KA.out _ (k1.out _)) (fun _ => ?_)
              clear hK K
              refine wpAnyH_ready (rs := [18]) (by kernel_rfl) (by simp) ?_
              refine AllReadyH.cons rfl ?_ AllReadyH.nil
              intro K hK
              go_simp
              refine (HR2.out _ (k1.out _)).mono ?_
              rintro e u2 ⟨rfl, rfl⟩
              refine hK.out _ _ (KA.out _ (k1.out _)) (fun _ => ?_)
              clear hK K
              refine wpAnyH_ready (rs := [25]) (by kernel_rfl) (by simp) ?_
              refine AllReadyH.cons rfl ?_ AllReadyH.nil
              intro K hK
              go_simp
              refine (HR3.out _ (k1.out _)).mono ?_
              rintro e u3 ⟨rfl, rfl⟩
              refine hK.out _ _ (KA.out _ (k1.out _)) (fun _ => ?_)
              clear hK K
              refine held_on (i := 34) (v := ?_) rfl (by kernel_rfl) (by kernel_rfl) (by kernel_rfl) (fun _ _ _ h => h) ?_ ?_ (by assumption) ?_
              rotate_left 1
              · rfl
              · intro w hSw; (try dsimp only at hSw); go_simp; try with_reducible rfl
              try simp only [Act.put, List.setIfInBounds_toArray, List.set_cons_zero, List.set_cons_succ, List.getElem_toArray, List.getElem_cons_zero, List.getElem_cons_succ]
            all_goals
              refine wpAnyH_ready (rs := [36]) (by kernel_rfl) (by simp) ?_
              refine AllReadyH.cons rfl (fun K hK => ?_) AllReadyH.nil
              go_simp
              refine hK.out _ _ (KA.out _ (k1.out _)) (fun _ => ?_)
              clear hK K
              refine wpAnyH_done (by kernel_rfl) ?_ _
              exact key
          have bF := Lib.hid (k1.out (.cells #[.int .i64 k, .int .i64 m1, .int .i64 m2, .int .i64 m3, .slice (some ⟨bb, o4, none⟩) q c4] 40))
          have wk : IntKind.i64.wrap k = k := IntWalk.i64_in _ (by omega)
          rw [wk]
          clear kW KA k1 bD cut1 cut2 cut3 cut4 HR1 HR2 HR3
          have X : Cs (W.alloc (.cells #[.int .i64 k, .int .i64 m1, .int .i64 m2, .int .i64 m3, .slice (some ⟨bb, o4, none⟩) q c4] 40)).drew W.heap.size (⟨k, m1, m2, m3, some ⟨bb, o4, none⟩, q, c4, bs4⟩ : Ov).cells := (Cs.new W #[.int .i64 k, .int .i64 m1, .int .i64 m2, .int .i64 m3, .slice (some ⟨bb, o4, none⟩) q c4] 40 rfl).drewN 1
          have b1 : Below wr.heap.size wr (W.alloc (.cells #[.int .i64 k, .int .i64 m1, .int .i64 m2, .int .i64 m3, .slice (some ⟨bb, o4, none⟩) q c4] 40)).drew := belowT bW bF.out
          have hu : (⟨k, m1, m2, m3, some ⟨bb, o4, none⟩, q, c4, bs4⟩ : Ov).ok (W.alloc (.cells #[.int .i64 k, .int .i64 m1, .int .i64 m2, .int .i64 m3, .slice (some ⟨bb, o4, none⟩) q c4] 40)).drew w.heap.size := ⟨⟨by show -9223372036854775808 ≤ k; omega, by show k ≤ 9223372036854775807; omega⟩, J1.out, J2.out, J3.out, n4.out.below (bF.out.mono (Nat.le_trans le1 bW.size)), hc4⟩
          clear bF wk J1 J2 J3 n4 hc4 HWW
          generalize (W.alloc (.cells #[.int .i64 k, .int .i64 m1, .int .i64 m2, .int .i64 m3, .slice (some ⟨bb, o4, none⟩) q c4] 40)).drew = W1 at *
          generalize W.heap.size = g at *
          have HU := Lib.hid hu
          have HZ : w.heap.size ≤ W1.heap.size := Nat.le_trans le1 b1.size
          have B1 := Lib.hid b1
          have HX := Lib.hid X
          have y0 := X.cell 0 _ rfl
          have y1 := X.cell 1 _ rfl
          have y2 := X.cell 2 _ rfl
          have y3 := X.cell 3 _ rfl
          have y4 := X.cell 4 _ rfl
          clear X b1 hu bW
          have HM := Lib.hid (refMay19_any ⟨k, m1, m2, m3, some ⟨bb, o4, none⟩, q, c4, bs4⟩ W1 HN4.out)
          cases hmay : mayO (⟨k, m1, m2, m3, some ⟨bb, o4, none⟩, q, c4, bs4⟩ : Ov).op with
          | false =>
            rw [hmay] at HM
            have HP := Lib.hid (HG.out.bad (by rw [HL.out]; omega) (by rw [HPM.out, EO.out, hmay]; rfl))
            clear hmay
            go_wp2_with fail
            refine HM.out.mono ?_
            rintro e w2 ⟨rfl, f2⟩
            have bz := HBW.out.trans ((belowT B1.out f2).mono HBW.out.size)
            go_wp2
            refine bodyPost_ret (v := .tuple #[.slice none 0 0, .int .i64 (p : Int), .int .i64 2]) (by simp [results, Tryd.results13, go_sem]) rfl ?_
            exact ⟨none, 0, 0, [], by rw [HP.out], by omega, Ops.empty _ _ _, by rw [HP.out]; rfl, bz⟩
          | true =>
            rw [hmay] at HM
            have HNX : Hid (Got b (p + (27 + q)) ((us ++ [(⟨k, m1, m2, m3, some ⟨bb, o4, none⟩, q, c4, bs4⟩ : Ov)]).map Ov.op)) := Lib.hid (by
              have := HG.out.next (o := (⟨k, m1, m2, m3, some ⟨bb, o4, none⟩, q, c4, bs4⟩ : Ov).op) (by rw [HPM.out, EO.out, if_pos hmay]) (by rw [HL.out, show (⟨k, m1, m2, m3, some ⟨bb, o4, none⟩, q, c4, bs4⟩ : Ov).op.bs.length = q from HN4.out]; omega)
              rw [show (⟨k, m1, m2, m3, some ⟨bb, o4, none⟩, q, c4, bs4⟩ : Ov).op.bs.length = q from HN4.out] at this
              rw [List.map_append]
              exact this)
            clear hmay
            have hwq : IntKind.i64.wrap (IntKind.i64.wrap ((p : Int) + 27) + (x + 256 * y)) = ((p + (27 + q) : Nat) : Int) := by rw [IntWalk.i64_in ((p : Int) + 27) (by omega), IntWalk.i64_in _ (by omega)]; omega
            have hpq : p + (27 + q) ≤ n := by omega
            go_wp2_with fail
            refine HM.out.mono ?_
            rintro e w2 ⟨rfl, f2⟩
            have X2 := HX.out.below f2
            have z0 := X2.cell 0 _ rfl
            have z1 := X2.cell 1 _ rfl
            have z2 := X2.cell 2 _ rfl
            have z3 := X2.cell 3 _ rfl
            have z4 := X2.cell 4 _ rfl
            have bA := (belowT B1.out f2).alloc (belowT B1.out f2).size (.cells #[.int .i64 k, .int .i64 m1, .int .i64 m2, .int .i64 m3, .slice (some ⟨bb, o4, none⟩) q c4] 40)
            have hown1 := HOWN.out.on bA
            have hxs : Cs (w2.alloc (.cells #[.int .i64 k, .int .i64 m1, .int .i64 m2, .int .i64 m3, .slice (some ⟨bb, o4, none⟩) q c4] 40)) w2.heap.size (⟨k, m1, m2, m3, some ⟨bb, o4, none⟩, q, c4, bs4⟩ : Ov).cells := Cs.new _ _ _ rfl
            obtain ⟨v', w3, r3, o3', b3, _⟩ := app_op (c := 1) hown1 hxs (Nat.le_trans HBW.out.size bA.size) (by omega) 22
            have R3 := Lib.hid r3
            have O3 := Lib.hid o3'
            have BA : Hid (Below w.heap.size w w3) := Lib.hid ((HBW.out.trans (bA.mono HBW.out.size)).trans b3)
            have OK3 : Hid (∀ v ∈ us ++ [(⟨k, m1, m2, m3, some ⟨bb, o4, none⟩, q, c4, bs4⟩ : Ov)], v.ok w3 w.heap.size) := Lib.hid (by
              intro v hv
              rcases List.mem_append.1 hv with m | m
              · exact ((HOK.out v m).below (bA.mono HBW.out.size)).below b3
              · obtain rfl := List.mem_singleton.1 m
                exact (HU.out.below (((below1 w2 _).mono f2.size |> fun z => f2.trans z).mono HZ)).below b3)
            clear r3 o3' b3 hxs hown1 bA X2 f2 y0 y1 y2 y3 y4
            go_wp2_with (refine wpList_append_run (w' := w3) (v := v') rfl (.tmp 80) (.tmp 82) rfl rfl rfl rfl ?_ ?_; (· exact R3.out))
            refine ⟨⟨p + (27 + q), m + 1, us ++ [⟨k, m1, m2, m3, some ⟨bb, o4, none⟩, q, c4, bs4⟩], by first | rfl | (congr 1; omega), hpq, HNX.out, O3.out, by omega, OK3.out, BA.out⟩, by simp only [intOf]; omega⟩
    · have HP := Lib.hid (hgot.all (by rw [HL.out]; omega))
      obtain ⟨a', c', rfl, hc', ho'⟩ := hown.ops (fun u hu => (hok u hu).more hbw.size) (by omega)
      clear hgot hown hok
      go_wp2
      refine bodyPost_ret (v := .tuple #[.slice a' m c', .int .i64 0, .int .i64 0]) (by simp [results, Tryd.results13, go_sem]) rfl ?_
      exact ⟨a', m, c', us, by rw [HP.out], hc', ho', by rw [HP.out], hbw⟩
end Go.Proofs.YtjnnblcafocdoaaDoor
