/-
  The laws' common beginning (almerylaw19.awake), met by a contract: a tick and a write, put and taken; it returns true, and leaves all memory that was there as it was.
-/
import Derived.Test.YtjnnblcafocdoaaDoorOpAsk
import Derived.Lib.MinMax
import Derived.Lib.SmallJoins
namespace Go.Proofs.YtjnnblcafocdoaaDoor
open Go.ChangeShapes Go.WideShapes Go.ChangeAt Go.RowKit

def awO1 : Opn := ⟨6, 0, 0, 0, []⟩
def awO2 : Opn := ⟨4, -1, 0, 0, [120]⟩
def awB : List Int := [6, 0, 0, 0, 0, 0, 0, 0, 0, 0, 0, 0, 0, 0, 0, 0, 0, 0, 0, 0, 0, 0, 0, 0, 0, 0, 0, 4, 255, 255, 255, 255, 255, 255, 255, 255, 0, 0, 0, 0, 0, 0, 0, 0, 0, 0, 0, 0, 0, 0, 0, 0, 1, 0, 120]
theorem aw_put : putOut [awO1, awO2] = (awB, 0) := by kernel_rfl
theorem aw_all : AllO [awO1, awO2] := by
  intro o ho
  simp at ho
  rcases ho with rfl | rfl
  · exact ⟨⟨⟨by decide, by decide⟩, ⟨by decide, by decide⟩, ⟨by decide, by decide⟩, ⟨by decide, by decide⟩, by intro x hx; simp [awO1] at hx⟩, by decide⟩
  · exact ⟨⟨⟨by decide, by decide⟩, ⟨by decide, by decide⟩, ⟨by decide, by decide⟩, ⟨by decide, by decide⟩, by intro x hx; simp [awO2] at hx; omega⟩, by decide⟩
theorem aw_take : takeOut awB = ([awO1, awO2], 0, 0) := by
  have e : awB = putL [awO1, awO2] := by kernel_rfl
  unfold takeOut
  rw [e, take_put aw_all]
theorem aw_cut : takeOut (awB.take 50) = ([], 27, 2) := by
  have p1 : parse1 (awB.take 50) = some awO1 := by kernel_rfl
  have p2 : parse1 ((awB.take 50).drop 27) = none := by kernel_rfl
  have n1 : awB.take 50 ≠ [] := by decide
  have n2 : (awB.take 50).drop 27 ≠ [] := by decide
  unfold takeOut
  rw [takeL_one n1 p1, show 27 + awO1.bs.length = 27 from rfl, takeL_bad n2 p2]
  rfl
theorem aw_none : putOut [⟨0, 0, 0, 0, []⟩] = ([], 2) := by kernel_rfl
theorem ops_lit (w : World) (cs : Array Value) (us : List Ov) (g n : Nat) (hg : w.heap.size = g) (hcs : cs.toList = flatO us) (hn : us.length = n) (hm : n ≤ 1000) (hok : ∀ u ∈ us, u.ok w w.heap.size) :
    Ops (w.alloc (.cells cs 40)) (w.alloc (.cells cs 40)).heap.size (some ⟨g, 0, none⟩) n us := by
  subst hg
  have hh : (w.alloc (.cells cs 40)).heap[w.heap.size]? = some (.cells cs 40) := by simp only [World.alloc, Array.getElem?_push, if_true]
  refine ⟨hn, by omega, fun i u hu => ((hok u (List.mem_of_getElem? hu)).below (below1 w _)).more (by simp), fun _ => ⟨_, 0, rfl, by simp, fun i u hu j v hv => ?_⟩⟩
  rw [World.cell?, hh]
  have := flatO_at us i u j v hu hv
  rw [← hcs] at this
  simpa using this
theorem ok_lit {w : World} {B : Nat} {k h a b : Int} {ba : Option Addr} {bn bc : Nat} {bs : List Int} (q : int64 k ∧ int64 h ∧ int64 a ∧ int64 b) (hb : Bytes w B ba bn bs) (hc : bn ≤ bc) : (⟨k, h, a, b, ba, bn, bc, bs⟩ : Ov).ok w B := ⟨q.1, q.2.1, q.2.2.1, q.2.2.2, hb, hc⟩
/-- Bytes of a text: as they lie behind the conversion. -/
theorem bytes_lit19 (w : World) (C : Array Value) (n c : Nat) : (convert 25 25 (.slice (some ⟨w.heap.size, 0, none⟩) n c)).run Tryd.prog (w.alloc (.cells C 5)) = .ok (.slice (some ⟨w.heap.size, 0, none⟩) n c) (w.alloc (.cells C 5 (C.size, C.size + 1))) :=
  Lib.run_convert_bytes_const w 25 5 C n c slice31 Tryd.underlying5
theorem lit_byte (w : World) (x : Int) (hx : 0 ≤ x ∧ x ≤ 255) : Bytes (w.alloc (.cells #[.int .u8 x] 5 (1, 2))) (w.alloc (.cells #[.int .u8 x] 5 (1, 2))).heap.size (some ⟨w.heap.size, 0, none⟩) 1 [x] := by
  refine ⟨rfl, by omega, fun y hy => by simp at hy; subst hy; exact hx, fun _ => ⟨_, 0, rfl, by simp, fun k s hs => ?_⟩⟩
  have hh : (w.alloc (.cells #[.int .u8 x] 5 (1, 2))).heap[w.heap.size]? = some (.cells #[.int .u8 x] 5 (1, 2)) := by simp only [World.alloc, Array.getElem?_push, if_true]
  match k, hs with
  | 0, hs => simp at hs; subst hs; rw [World.cell?, hh]; simp
set_option maxRecDepth 20000 in
set_option maxHeartbeats 2000000 in
theorem awake19_any (w : World) (hW : Wd w) : Calls Tryd.prog 8 #[] w (BB true w) := by
  have HW := Lib.hid hW
  clear hW
  have hcv := bytes_lit19 w #[.int .u8 120] 1 1
  have X1 := lit_byte w 120 (by omega)
  have L1 := Lib.hid (ops_lit (w.alloc (.cells #[.int .u8 120] 5 (1, 2))) #[.int .i64 6, .int .i64 0, .int .i64 0, .int .i64 0, .slice none 0 0, .int .i64 4, .int .i64 (-1), .int .i64 0, .int .i64 0, .slice (some ⟨w.heap.size, 0, none⟩) 1 1]
    [⟨6, 0, 0, 0, none, 0, 0, []⟩, ⟨4, -1, 0, 0, some ⟨w.heap.size, 0, none⟩, 1, 1, [120]⟩] (w.heap.size + 1) 2 (by simp) rfl rfl (by omega)
    (fun u hu => by
      simp at hu
      rcases hu with rfl | rfl
      · exact ok_lit (by unfold int64; omega) (Bytes.zero _ _ _) (Nat.le_refl _)
      · exact ok_lit (by unfold int64; omega) X1 (Nat.le_refl _)))
  have B0 := Lib.hid (below2 w (.cells #[.int .u8 120] 5 (1, 2)) (.cells #[.int .i64 6, .int .i64 0, .int .i64 0, .int .i64 0, .slice none 0 0, .int .i64 4, .int .i64 (-1), .int .i64 0, .int .i64 0, .slice (some ⟨w.heap.size, 0, none⟩) 1 1] 40))
  have H1 := Lib.hid (put19_any _ 2 2 _ _ (HW.out.next B0.out) L1.out (by omega))
  clear X1
  go_enter Tryd.func8, Tryd.ntmps8
  go_wp2_with fail
  refine H1.out.mono ?_
  rintro e w1 ⟨a1, n1, c1, rfl, hc1, x1, f1⟩
  change Bytes w1 w1.heap.size a1 n1 (putOut [awO1, awO2]).1 at x1
  rw [show (putOut (List.map Ov.op [⟨6, 0, 0, 0, none, 0, 0, []⟩, ⟨4, -1, 0, 0, some ⟨w.heap.size, 0, none⟩, 1, 1, [120]⟩])).2 = 0 by show (putOut [awO1, awO2]).2 = 0; rw [aw_put]]
  rw [aw_put] at x1
  obtain rfl : n1 = 55 := x1.len.symm
  have B1 := Lib.hid (belowT B0.out f1)
  clear H1 L1 B0 f1
  have H2 := Lib.hid (take19_any a1 55 c1 awB w1 (HW.out.next B1.out) x1 hc1 (by omega))
  obtain ⟨b, o, rfl, hb, hcl⟩ := x1.head (by omega)
  have y0 := hcl 0 6 rfl
  have y28 := hcl 28 255 rfl
  have X1 := Lib.hid x1
  clear x1 hcl hcv
  go_wp2_with fail
  refine H2.out.mono ?_
  rintro e w2 ⟨a2, n2, c2, us, rfl, hc2, o2, e2, f2⟩
  rw [aw_take] at e2
  rw [aw_take]
  have hn2 : n2 = 2 := by
    have := congrArg List.length e2
    rw [List.length_map, o2.len] at this
    exact this
  subst hn2
  obtain ⟨u, hu, oku⟩ := o2.at_ (i := 1) (by omega)
  have hop : u.op = awO2 := by
    have h := congrArg (fun l => l[1]?) e2
    simp only [List.getElem?_map, hu] at h
    exact Option.some.inj h
  have hh : u.h = -1 := congrArg Opn.h hop
  have hbs : u.bs = [120] := congrArg Opn.bs hop
  have O2 := Lib.hid o2
  have HU := Lib.hid hu
  have OKU := Lib.hid oku
  have X2 := Lib.hid (X1.out.on f2)
  have hcap : 50 ≤ c1 := by omega
  have hcut : ∀ v, (Instr.sliceAt 25 (.slice (some ⟨b, o, none⟩) 55 c1) none (some (.int .i64 50)) none).run Tryd.prog v = .ok (.slice (some ⟨b, o, none⟩) 50 c1) v := fun v => cut_h (k := 50) hcap v
  have H3 := Lib.hid (take19_any _ 50 c1 (awB.take 50) w2 (HW.out.next (belowT B1.out f2)) (X2.out.cut (i := 0) (k := 50) (o' := o) (by omega) (fun _ => rfl)) hcap (by omega))
  have B2 := Lib.hid (belowT B1.out f2)
  have Y0 := Lib.hid ((f2.cell (p := ⟨b, o, none⟩) hb).trans y0)
  have Y28 := Lib.hid ((f2.cell (p := ⟨b, o + 28, none⟩) hb).trans y28)
  have HB := Lib.hid (Nat.lt_of_lt_of_le hb f2.size)
  clear o2 hu oku f2 hop e2 H2 X1 B1 y0 y28 hb
  go_wp2_with fail
  refine H3.out.mono ?_
  rintro e w3 ⟨a3, n3, c3, us3, rfl, hc3, o3, e3, f3⟩
  rw [aw_cut] at e3
  rw [aw_cut]
  have B3 := Lib.hid (belowT B2.out f3)
  have L4 := Lib.hid (ops_lit w3 #[.int .i64 0, .int .i64 0, .int .i64 0, .int .i64 0, .slice none 0 0] [⟨0, 0, 0, 0, none, 0, 0, []⟩] w3.heap.size 1 rfl rfl rfl (by omega) (fun u hu => by
    simp at hu
    subst hu
    exact ok_lit (by unfold int64; omega) (Bytes.zero _ _ _) (Nat.le_refl _)))
  have H4 := Lib.hid (put19_any _ 1 1 _ _ ((HW.out.next B3.out).next (below1 w3 _)) L4.out (by omega))
  have F4 := Lib.hid (f3.trans ((below1 w3 (.cells #[.int .i64 0, .int .i64 0, .int .i64 0, .int .i64 0, .slice none 0 0] 40)).mono f3.size))
  clear f3 o3 e3 H3 B2 hcut hcap
  go_wp2_with fail
  refine H4.out.mono ?_
  rintro e w4 ⟨a4, n4, c4, rfl, hc4, x4, f4⟩
  rw [show (putOut (List.map Ov.op [⟨0, 0, 0, 0, none, 0, 0, []⟩])).2 = 2 by show (putOut [⟨0, 0, 0, 0, []⟩]).2 = 2; rw [aw_none]]
  have G := Lib.hid (F4.out.trans (f4.mono F4.out.size))
  have BF := Lib.hid (belowT B3.out (((Below.refl w3.heap.size w3).alloc (Nat.le_refl _) (.cells #[.int .i64 0, .int .i64 0, .int .i64 0, .int .i64 0, .slice none 0 0] 40)).trans (f4.mono (by simp))))
  have z0 := (G.out.cell (p := ⟨b, o, none⟩) HB.out).trans Y0.out
  have z28 := (G.out.cell (p := ⟨b, o + 28, none⟩) HB.out).trans Y28.out
  have O4 := O2.out.on G.out
  obtain ⟨b', o', rfl, _, q0, q1, q2, q3, q4⟩ := O4.at5 HU.out
  rw [hh] at q1
  have s4 := string_run (c := u.bc) ((OKU.out.below G.out).bytes)
  rw [hbs, show strOfNums [120] = ⟨#[120]⟩ from rfl] at s4
  clear q0 q2 q3 x4 f4 H4 L4 F4 O4 O2 HU OKU X2 Y0 Y28 HB
  go_wp2
  go_ret
  exact ⟨rfl, BF.out⟩
end Go.Proofs.YtjnnblcafocdoaaDoor
