/-
  What package bound tells of a thing of a size (layout.what), met by contracts: of no thing, of a small one, of a large one; all memory that was there is as it was.
-/
import Derived.Test.YtpdhlnkdjcghpaaBoundNum
import Derived.Test.YtpdhlnkdjcghpaaBoundTog
import Derived.Test.YtpdhlnkdjcghpaaConfOne
import Derived.Test.YtpdhlnkdjcghpaaConfBox
import Derived.Test.YtpdhlnkdjcghpaaClassPick
import Derived.Test.YtpdhlnkdjcghpaaChainAsk
import Derived.Test.YtpdhlnkdjcghpaaCells
import Derived.Deep.RegionHeld3
namespace Go.Proofs.Ytpdhlnkdjcghpaa
open Go.ChangeShapes Go.WideShapes Go.ChangeAt Go.RowKit

/-- It returns a thing: its kind, block, pages, data pages; all memory that was there is as it was. -/
def ThEnd (k b p d : Int) (w : World) (e : Ending) (w' : World) : Prop := e = .returned (.agg #[.int .i64 k, .int .i64 b, .int .i64 p, .int .i64 d]) ∧ Below w.heap.size w w'
theorem below3 (w : World) (o1 o2 o3 : Obj) : Below w.heap.size w (((w.alloc o1).alloc o2).alloc o3) := (below2 w o1 o2).alloc (by simp <;> omega) o3
theorem what_none (c : Cf) (s : Int) (w : World) (ht : isT c s = false) :
    Calls Try.prog 19 #[(.agg #[.int .i64 c.size, .int .i64 c.pages, .slice c.ca c.cn c.cc, .slice c.ka c.kn c.kc, .int .i64 c.step, .int .i64 c.slots, .int .i64 c.gens, .int .i64 c.most]), .int .i64 s] w (ThEnd 0 0 0 0 w) := by
  by_cases h1 : s < 1
  · have d1 : decide (s < 1) = true := decide_eq_true h1
    clear ht
    go_enter Try.func19, Try.ntmps19
    go_wp2
    refine bodyPost_ret (v := .agg #[.int .i64 0, .int .i64 0, .int .i64 0, .int .i64 0]) (by simp [results, Try.results19, go_sem]) rfl ?_
    exact ⟨rfl, below3 _ _ _ _⟩
  · have d1 : decide (s < 1) = false := decide_eq_false h1
    have h2 : c.most < s := by
      have : ¬ (1 ≤ s ∧ s ≤ c.most) := fun g => by rw [isT_true.2 g] at ht; cases ht
      omega
    have d2 : decide (c.most < s) = true := decide_eq_true h2
    clear ht
    go_enter Try.func19, Try.ntmps19
    go_wp2
    refine bodyPost_ret (v := .agg #[.int .i64 0, .int .i64 0, .int .i64 0, .int .i64 0]) (by simp [results, Try.results19, go_sem]) rfl ?_
    exact ⟨rfl, below3 _ _ _ _⟩
set_option maxHeartbeats 1000000 in
theorem what_small (c : Cf) (s : Int) (w : World) (hc : c.Ok w w.heap.size) (M : MayC c) (ht : isT c s = true) (hs : s ≤ small c) :
    Calls Try.prog 19 #[(.agg #[.int .i64 c.size, .int .i64 c.pages, .slice c.ca c.cn c.cc, .slice c.ka c.kn c.kc, .int .i64 c.step, .int .i64 c.slots, .int .i64 c.gens, .int .i64 c.most]), .int .i64 s] w (ThEnd 1 (blockOf c s) 0 0 w) := by
  obtain ⟨k, b, hk, hp, hb, e, _, b1, b2⟩ := M.block ht hs
  rw [e]
  obtain ⟨t1, t2⟩ := isT_true.1 ht
  have d1 : decide (s < 1) = false := decide_eq_false (by omega)
  have d2 : decide (c.most < s) = false := decide_eq_false (by omega)
  have d3 : decide (s ≤ small c) = true := decide_eq_true hs
  have hlen := hc.classes.len
  obtain ⟨cb, co, ha, hlt, hcl⟩ := hc.classes.head (by omega)
  have hcell := hcl k b hb
  have hkn : (k : Int) < (c.cn : Int) := by omega
  have HP := Lib.hid (fun v (hv : Below w.heap.size w v) => by
    have H := pick_any c.ca c.cn c.cc c.xs s w.heap.size v (hc.classes.below hv)
    rw [hp] at H
    exact H)
  have HS := Lib.hid (fun v (hv : Below w.heap.size w v) => small_any c v (hc.on hv))
  have HB := Lib.hid (below3 w)
  clear ht hs M hc e hp hb hcl hk hlen t1 t2
  have HT : Calls Try.prog 19 #[.agg #[.int .i64 c.size, .int .i64 c.pages, .slice (some ⟨cb, co, none⟩) c.cn c.cc, .slice c.ka c.kn c.kc, .int .i64 c.step, .int .i64 c.slots, .int .i64 c.gens, .int .i64 c.most], .int .i64 s] w (ThEnd 1 b 0 0 w) := by
    rw [ha] at HP HS
    clear ha
    go_enter Try.func19, Try.ntmps19
    go_wp2_with fail
    refine (HS.out _ (HB.out _ _ _)).mono ?_
    rintro e w1 ⟨rfl, f1⟩
    have b3 : Below w.heap.size w w1 := (HB.out _ _ _).trans (f1.mono (HB.out _ _ _).size)
    have x2 : w1.cell? ⟨w.heap.size + 1 + 1, 2, none⟩ = some (.slice (some ⟨cb, co, none⟩) c.cn c.cc) := (f1.cell (p := ⟨w.heap.size + 1 + 1, 2, none⟩) (by simp)).trans (by go_simp)
    have xe : w1.cell? ⟨cb, co + k, none⟩ = some (.int .i64 b) := (b3.cell hlt).trans hcell
    have ZD : Cs w1.drew (w.heap.size + 1) [.int .i64 0, .int .i64 0, .int .i64 0, .int .i64 0] := ((((Cs.new (w.alloc _) #[.int .i64 0, .int .i64 0, .int .i64 0, .int .i64 0] 37 rfl).below (below1 _ _)).at_ (by simp)).below f1).drewN 1
    clear f1 HS HB hcell
    have y0 : w1.cell? ⟨w.heap.size + 1, 0, none⟩ = some (.int .i64 0) := ZD.cell 0 _ rfl
    have y1 : w1.cell? ⟨w.heap.size + 1, 1, none⟩ = some (.int .i64 0) := ZD.cell 1 _ rfl
    have y2 : w1.cell? ⟨w.heap.size + 1, 2, none⟩ = some (.int .i64 0) := ZD.cell 2 _ rfl
    have y3 : w1.cell? ⟨w.heap.size + 1, 3, none⟩ = some (.int .i64 0) := ZD.cell 3 _ rfl
    have v0 : w1.frozen? ⟨w.heap.size + 1, 0, none⟩ = false := ZD.free 0 (by simp)
    have v1 : w1.frozen? ⟨w.heap.size + 1, 1, none⟩ = false := ZD.free 1 (by simp)
    have v2 : w1.frozen? ⟨w.heap.size + 1, 2, none⟩ = false := ZD.free 2 (by simp)
    have v3 : w1.frozen? ⟨w.heap.size + 1, 3, none⟩ = false := ZD.free 3 (by simp)
    have HPD := Lib.hid (HP.out w1.drew (belowD b3))
    have go4 : Hid (∀ c0 c1 c2 c3, Below w.heap.size w ((((w1.drew.setCell ⟨w.heap.size + 1, 0, none⟩ c0).setCell ⟨w.heap.size + 1, 1, none⟩ c1).setCell ⟨w.heap.size + 1, 2, none⟩ c2).setCell ⟨w.heap.size + 1, 3, none⟩ c3)) := Lib.hid fun _ _ _ _ =>
      ((((belowD b3).setCell (p := ⟨w.heap.size + 1, 0, none⟩) (by simp) _).setCell (p := ⟨w.heap.size + 1, 1, none⟩) (by simp) _).setCell (p := ⟨w.heap.size + 1, 2, none⟩) (by simp) _).setCell (p := ⟨w.heap.size + 1, 3, none⟩) (by simp) _
    have hne : cb ≠ w.heap.size + 1 := by omega
    clear b3 HP ZD hlt
    generalize w.heap.size + 1 = P at *
    have kW : w1.cell? ⟨P + 1, 2, none⟩ = some (.slice (some ⟨cb, co, none⟩) c.cn c.cc) ∧ w1.cell? ⟨cb, co + k, none⟩ = some (.int .i64 b) := ⟨x2, xe⟩
    have kD : w1.drew.cell? ⟨P + 1, 2, none⟩ = some (.slice (some ⟨cb, co, none⟩) c.cn c.cc) ∧ w1.drew.cell? ⟨cb, co + k, none⟩ = some (.int .i64 b) := ⟨x2, xe⟩
    have k4 : Hid (∀ c0 c1 c2 c3, ((((w1.drew.setCell ⟨P, 0, none⟩ c0).setCell ⟨P, 1, none⟩ c1).setCell ⟨P, 2, none⟩ c2).setCell ⟨P, 3, none⟩ c3).cell? ⟨P + 1, 2, none⟩ = some (.slice (some ⟨cb, co, none⟩) c.cn c.cc) ∧ ((((w1.drew.setCell ⟨P, 0, none⟩ c0).setCell ⟨P, 1, none⟩ c1).setCell ⟨P, 2, none⟩ c2).setCell ⟨P, 3, none⟩ c3).cell? ⟨cb, co + k, none⟩ = some (.int .i64 b)) := Lib.hid fun _ _ _ _ => by
      constructor
      · rw [World.cell?_setCell_other _ _ _ _ (by simp), World.cell?_setCell_other _ _ _ _ (by simp), World.cell?_setCell_other _ _ _ _ (by simp), World.cell?_setCell_other _ _ _ _ (by simp)]
        exact x2
      · rw [World.cell?_setCell_other _ _ _ _ (by simp), World.cell?_setCell_other _ _ _ _ (by simp), World.cell?_setCell_other _ _ _ _ (by simp), World.cell?_setCell_other _ _ _ _ (by simp)]
        exact xe
    go_wp2_with fail
    go_region_held3 (fun v => v.cell? ⟨P + 1, 2, none⟩ = some (.slice (some ⟨cb, co, none⟩) c.cn c.cc) ∧ v.cell? ⟨cb, co + k, none⟩ = some (.int .i64 b))
      (first | with_reducible exact kD | with_reducible exact kW | exact k4.out _ _ _ _)
      (first
        | (go_at_call 28; refine HPD.out.mono ?_; rintro e w2 ⟨rfl, rfl⟩))
    have HF := Lib.hid (go4.out (.int .i64 1) (.int .i64 b) (.int .i64 0) (.int .i64 0))
    clear go4 k4 HPD
    go_wp2
    refine bodyPost_ret (v := .agg #[.int .i64 1, .int .i64 b, .int .i64 0, .int .i64 0]) (by simp [results, Try.results19, go_sem, y0, y1, y2, y3]) rfl ?_
    exact ⟨rfl, HF.out⟩
  rw [ha]
  exact HT
set_option maxHeartbeats 1000000 in
theorem what_large (c : Cf) (s : Int) (w : World) (hc : c.Ok w w.heap.size) (ht : isT c s = true) (hs : ¬ s ≤ small c) (hm : s ≤ 9223372036854775807) :
    Calls Try.prog 19 #[(.agg #[.int .i64 c.size, .int .i64 c.pages, .slice c.ca c.cn c.cc, .slice c.ka c.kn c.kc, .int .i64 c.step, .int .i64 c.slots, .int .i64 c.gens, .int .i64 c.most]), .int .i64 s] w (ThEnd 2 0 (allOf s c.size) (many s c.size) w) := by
  obtain ⟨t1, t2⟩ := isT_true.1 ht
  have d1 : decide (s < 1) = false := decide_eq_false (by omega)
  have d2 : decide (c.most < s) = false := decide_eq_false (by omega)
  have d3 : decide (s ≤ small c) = false := decide_eq_false hs
  have HS := Lib.hid (fun v (hv : Below w.heap.size w v) => small_any c v (hc.on hv))
  have HA := Lib.hid (fun v => all_any s c.size v hm)
  have HD := Lib.hid (fun v => data_any s c.size v hm)
  have HB := Lib.hid (below3 w)
  clear ht hs hc t1 t2 hm
  generalize allOf s c.size = p at *
  generalize many s c.size = d at *
  go_enter Try.func19, Try.ntmps19
  go_wp2_with fail
  refine (HS.out _ (HB.out _ _ _)).mono ?_
  rintro e w1 ⟨rfl, f1⟩
  have b3 : Below w.heap.size w w1 := (HB.out _ _ _).trans (f1.mono (HB.out _ _ _).size)
  have x0 : w1.cell? ⟨w.heap.size + 1 + 1, 0, none⟩ = some (.int .i64 c.size) := (f1.cell (p := ⟨w.heap.size + 1 + 1, 0, none⟩) (by simp)).trans (by go_simp)
  have ZD : Cs w1.drew (w.heap.size + 1) [.int .i64 0, .int .i64 0, .int .i64 0, .int .i64 0] := ((((Cs.new (w.alloc _) #[.int .i64 0, .int .i64 0, .int .i64 0, .int .i64 0] 37 rfl).below (below1 _ _)).at_ (by simp)).below f1).drewN 1
  have l1 : w.heap.size + 1 + 1 < w1.drew.heap.size := by have := f1.size; simp at this; show _ < w1.heap.size; omega
  clear f1 HS HB
  have go4 : Hid (∀ v, Below w.heap.size w v → ∀ c0 c1 c2 c3, Below w.heap.size w ((((v.setCell ⟨w.heap.size + 1, 0, none⟩ c0).setCell ⟨w.heap.size + 1, 1, none⟩ c1).setCell ⟨w.heap.size + 1, 2, none⟩ c2).setCell ⟨w.heap.size + 1, 3, none⟩ c3)) := Lib.hid fun _ hv _ _ _ _ =>
    (((hv.setCell (p := ⟨w.heap.size + 1, 0, none⟩) (by simp) _).setCell (p := ⟨w.heap.size + 1, 1, none⟩) (by simp) _).setCell (p := ⟨w.heap.size + 1, 2, none⟩) (by simp) _).setCell (p := ⟨w.heap.size + 1, 3, none⟩) (by simp) _
  generalize w.heap.size + 1 = P at *
  have kW : w1.cell? ⟨P + 1, 0, none⟩ = some (.int .i64 c.size) := x0
  have kD : w1.drew.cell? ⟨P + 1, 0, none⟩ = some (.int .i64 c.size) := x0
  have k4 : Hid (∀ v : World, v.cell? ⟨P + 1, 0, none⟩ = some (.int .i64 c.size) → ∀ c0 c1 c2 c3, ((((v.setCell ⟨P, 0, none⟩ c0).setCell ⟨P, 1, none⟩ c1).setCell ⟨P, 2, none⟩ c2).setCell ⟨P, 3, none⟩ c3).cell? ⟨P + 1, 0, none⟩ = some (.int .i64 c.size)) := Lib.hid fun v hv _ _ _ _ => by
    rw [World.cell?_setCell_other _ _ _ _ (by simp), World.cell?_setCell_other _ _ _ _ (by simp), World.cell?_setCell_other _ _ _ _ (by simp), World.cell?_setCell_other _ _ _ _ (by simp)]
    exact hv
  go_wp2_with fail
  go_region_held3 (fun v => v.cell? ⟨P + 1, 0, none⟩ = some (.int .i64 c.size))
    (first | with_reducible exact kD | with_reducible exact kW | with_reducible exact k2 | with_reducible exact k3 | exact k4.out _ k3 _ _ _ _)
    (first
      | (go_at_call 29; refine (HA.out _).mono ?_; rintro e w2 ⟨rfl, f2⟩; have k2 := (f2.below.cell (p := ⟨P + 1, 0, none⟩) l1).trans kD; have l2 := Nat.lt_of_lt_of_le l1 f2.below.size; have Z2 := ZD.below f2.below)
      | (go_at_call 26; refine (HD.out _).mono ?_; rintro e w3 ⟨rfl, f3⟩; have k3 := (f3.below.cell (p := ⟨P + 1, 0, none⟩) l2).trans k2; have Z3 := Z2.below f3.below; have y0 := Z3.cell 0 _ rfl; have y1 := Z3.cell 1 _ rfl; have y2 := Z3.cell 2 _ rfl; have y3 := Z3.cell 3 _ rfl; have v0 := Z3.free 0 (by simp); have v1 := Z3.free 1 (by simp); have v2 := Z3.free 2 (by simp); have v3 := Z3.free 3 (by simp)))
  have HF := Lib.hid (go4.out _ ((belowT (belowD b3) f2.below).trans (f3.below.mono (belowT (belowD b3) f2.below).size)) (.int .i64 2) (.int .i64 0) (.int .i64 p) (.int .i64 d))
  clear go4 k4 HA HD f2 f3 Z2 Z3 ZD l1 l2 k2 k3 kD kW b3
  go_wp2
  refine bodyPost_ret (v := .agg #[.int .i64 2, .int .i64 0, .int .i64 p, .int .i64 d]) (by simp [results, Try.results19, go_sem, y0, y1, y2, y3]) rfl ?_
  exact ⟨rfl, HF.out⟩
end Go.Proofs.Ytpdhlnkdjcghpaa
