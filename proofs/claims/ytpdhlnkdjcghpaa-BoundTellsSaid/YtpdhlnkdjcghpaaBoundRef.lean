/-
  The document's own answers for package bound: Alloc, Free (almeryref18), and what they ask, met by contracts: the plain 'allocB', 'freeB'; all memory that was there is as it was.
-/
import Derived.Test.YtpdhlnkdjcghpaaBoundNum
import Derived.Test.YtpdhlnkdjcghpaaNeedRef
import Derived.Test.YtpdhlnkdjcghpaaConfRefOne
import Derived.Test.YtpdhlnkdjcghpaaHeldOff
import Derived.Lib.MinMax
namespace Go.Proofs.Ytpdhlnkdjcghpaa
open Go.ChangeShapes Go.WideShapes Go.ChangeAt Go.RowKit

section
variable {c : Cf} {s : Int} {w : World}
theorem refIsSmall_any (hc : c.Ok w w.heap.size) : Calls Try.prog 22 #[(.agg #[.int .i64 c.size, .int .i64 c.pages, .slice c.ca c.cn c.cc, .slice c.ka c.kn c.kc, .int .i64 c.step, .int .i64 c.slots, .int .i64 c.gens, .int .i64 c.most]), .int .i64 s] w (BB (decide (s ≤ small c)) w) := by
  have b0 := below1 w (.cells #[.int .i64 c.size, .int .i64 c.pages, .slice c.ca c.cn c.cc, .slice c.ka c.kn c.kc, .int .i64 c.step, .int .i64 c.slots, .int .i64 c.gens, .int .i64 c.most] 24)
  have H := Lib.hid (refSmall_any c (w.alloc (.cells #[.int .i64 c.size, .int .i64 c.pages, .slice c.ca c.cn c.cc, .slice c.ka c.kn c.kc, .int .i64 c.step, .int .i64 c.slots, .int .i64 c.gens, .int .i64 c.most] 24)) (hc.on b0))
  clear hc
  generalize small c = m at *
  go_enter Try.func22, Try.ntmps22
  go_wp2_with fail
  refine H.out.mono ?_
  rintro e w1 ⟨rfl, f1⟩
  go_wp2
  go_ret
  exact ⟨rfl, belowT b0 f1⟩
set_option maxHeartbeats 1000000 in
theorem refBlock_any (hc : c.Ok w w.heap.size) (M : MayC c) (ht : isT c s = true) (hs : s ≤ small c) : Calls Try.prog 23 #[(.agg #[.int .i64 c.size, .int .i64 c.pages, .slice c.ca c.cn c.cc, .slice c.ka c.kn c.kc, .int .i64 c.step, .int .i64 c.slots, .int .i64 c.gens, .int .i64 c.most]), .int .i64 s] w (IB (blockOf c s) w) := by
  obtain ⟨k, b, hk, hp, hb, e, _, b1, b2⟩ := M.block ht hs
  rw [e]
  have hlen := hc.classes.len
  have HI := hc.classes.alloc (Nat.le_refl _) (.cells #[.int .i64 c.size, .int .i64 c.pages, .slice c.ca c.cn c.cc, .slice c.ka c.kn c.kc, .int .i64 c.step, .int .i64 c.slots, .int .i64 c.gens, .int .i64 c.most] 24)
  obtain ⟨cb, co, ha, hlt, hcl⟩ := HI.head (by omega)
  have hcell := hcl k b hb
  have hkn : (k : Int) < (c.cn : Int) := by omega
  have hmax := hc.classes.max
  have HP := Lib.hid (fun n => by
    have H := refPick_any c.ca c.cn c.cc c.xs s w.heap.size ((w.alloc (.cells #[.int .i64 c.size, .int .i64 c.pages, .slice c.ca c.cn c.cc, .slice c.ka c.kn c.kc, .int .i64 c.step, .int .i64 c.slots, .int .i64 c.gens, .int .i64 c.most] 24)).drewN n) (HI.drewN n)
    rw [hp] at H
    exact H)
  clear ht hs M hc e hp hb hcl hk hlen HI
  have HT : Calls Try.prog 23 #[.agg #[.int .i64 c.size, .int .i64 c.pages, .slice (some ⟨cb, co, none⟩) c.cn c.cc, .slice c.ka c.kn c.kc, .int .i64 c.step, .int .i64 c.slots, .int .i64 c.gens, .int .i64 c.most], .int .i64 s] w (IB b w) := by
    rw [ha] at HP hcell
    clear ha
    go_enter Try.func23, Try.ntmps23
    go_wp2_with fail
    go_quiet ((go_at_call 31; exact quiet1 (HP.out _)))
    go_wp2
    go_ret
    exact ⟨rfl, belowN (below1 _ _) _⟩
  rw [ha]
  exact HT
set_option maxHeartbeats 1000000 in
theorem refAlloc_any (hc : c.Ok w w.heap.size) (M : MayC c) (hs : Fit s) : Calls Try.prog 8 #[(.agg #[.int .i64 c.size, .int .i64 c.pages, .slice c.ca c.cn c.cc, .slice c.ka c.kn c.kc, .int .i64 c.step, .int .i64 c.slots, .int .i64 c.gens, .int .i64 c.most]), .int .i64 s] w (IB (allocB c s) w) := by
  have b0 := below1 w (.cells #[.int .i64 c.size, .int .i64 c.pages, .slice c.ca c.cn c.cc, .slice c.ka c.kn c.kc, .int .i64 c.step, .int .i64 c.slots, .int .i64 c.gens, .int .i64 c.most] 24)
  have X0 := Boxed.new w c
  have HI := Lib.hid (refIs_any c s (w.alloc (.cells #[.int .i64 c.size, .int .i64 c.pages, .slice c.ca c.cn c.cc, .slice c.ka c.kn c.kc, .int .i64 c.step, .int .i64 c.slots, .int .i64 c.gens, .int .i64 c.most] 24)))
  have O := Lib.hid (fun v (hv : Below w.heap.size w v) => hc.on hv)
  cases ht : isT c s with
  | false =>
    rw [alloc_none ht]
    rw [ht] at HI
    clear hc M hs ht O X0
    go_enter Try.func8, Try.ntmps8
    go_wp2_with fail
    refine HI.out.mono ?_
    rintro e w1 ⟨rfl, f1⟩
    go_wp2
    go_ret
    exact ⟨rfl, belowT b0 f1⟩
  | true =>
    rw [ht] at HI
    have HS := Lib.hid (fun v (hv : Below w.heap.size w v) => refIsSmall_any (s := s) (O.out v hv))
    by_cases hsm : s ≤ small c
    · have HB := Lib.hid (fun v (hv : Below w.heap.size w v) => refBlock_any (O.out v hv) M ht hsm)
      obtain ⟨_, b, _, _, _, e, _, z1, z2⟩ := M.block ht hsm
      rw [alloc_small ht hsm]
      rw [e] at HB ⊢
      rw [decide_eq_true hsm] at HS
      clear hc M hs ht O e hsm
      go_enter Try.func8, Try.ntmps8
      go_wp2_with fail
      refine HI.out.mono ?_
      rintro e w1 ⟨rfl, f1⟩
      have b1 := belowT b0 f1
      have X1 := X0.on f1
      clear f1 b0 X0 HI
      have ⟨x0, x1, x2, x3, x4, x5, x6, x7, x8⟩ := X1
      go_wp2_with fail
      refine (HS.out _ b1).mono ?_
      rintro e w2 ⟨rfl, f2⟩
      have b2 := belowT b1 f2
      have X2 := X1.on f2
      clear f2 b1 X1 HS x0 x1 x2 x3 x4 x5 x6 x7 x8
      have ⟨x0, x1, x2, x3, x4, x5, x6, x7, x8⟩ := X2
      go_wp2_with fail
      refine (HB.out _ b2).mono ?_
      rintro e w3 ⟨rfl, f3⟩
      go_wp2
      go_ret
      exact ⟨rfl, belowT b2 f3⟩
    · rw [alloc_large ht hsm]
      obtain ⟨m1, m2, a1, a2, p1, p2⟩ := M.wide (s := s) ht
      obtain ⟨l1, l2, l3⟩ := M.large
      have HA := Lib.hid (fun v => refAll_any s c.size v hs.2)
      have HD := Lib.hid (fun v => refData_any s c.size v hs.2)
      rw [decide_eq_false hsm] at HS
      clear hc M hs ht O hsm
      generalize allOf s c.size = p at *
      generalize many s c.size = d at *
      have hw : IntKind.i64.wrap ((2 + c.size) * d) = (2 + c.size) * d := IntWalk.i64_in _ (by omega)
      generalize hq : (2 + c.size) * d = q at *
      go_enter Try.func8, Try.ntmps8
      go_wp2_with fail
      refine HI.out.mono ?_
      rintro e w1 ⟨rfl, f1⟩
      have b1 := belowT b0 f1
      have X1 := X0.on f1
      clear f1 b0 X0 HI
      have ⟨x0, x1, x2, x3, x4, x5, x6, x7, x8⟩ := X1
      go_wp2_with fail
      refine (HS.out _ b1).mono ?_
      rintro e w2 ⟨rfl, f2⟩
      have b2 := belowT b1 f2
      have X2 := X1.on f2
      clear f2 b1 X1 HS x0 x1 x2 x3 x4 x5 x6 x7 x8
      have ⟨x0, x1, x2, x3, x4, x5, x6, x7, x8⟩ := X2
      go_wp2_with fail
      go_quiet ((first
        | (go_at_call 24; exact quiet1 (HA.out _))
        | (go_at_call 25; exact quiet1 (HD.out _))))
      go_wp2
      go_ret
      exact ⟨by first | rfl | simp, belowN b2 _⟩
end
end Go.Proofs.Ytpdhlnkdjcghpaa
