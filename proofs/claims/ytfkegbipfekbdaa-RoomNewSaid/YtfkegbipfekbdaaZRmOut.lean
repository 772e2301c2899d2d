import Derived.Test.YtfkegbipfekbdaaZClassNum
import Derived.Test.YtfkegbipfekbdaaZPgBitsNum
import Derived.Deep.QuietTactic
import Derived.BigQuiet
import Derived.Lib.Hide
import Derived.Test.YtfkegbipfekbdaaZRmPlace
/-
  slices.Equal of ints: whether they are the same; nothing but the order's draws turns.
-/
namespace Go.Proofs.Ytfkegbipfekbdaa
open Go.ChangeShapes Go.WideShapes Go.ChangeAt Go.RowKit
set_option maxRecDepth 100000

theorem equal_off {xs ys : List Int} {k : Nat} {x y : Int} (hx : xs[k]? = some x) (hy : ys[k]? = some y) (h : x ≠ y) : xs ≠ ys := fun e => by
  rw [e, hy] at hx
  exact h (Option.some.inj hx).symm
theorem equal_next {xs ys : List Int} {k : Nat} {x : Int} (h : xs.take k = ys.take k) (hx : xs[k]? = some x) (hy : ys[k]? = some x) : xs.take (k + 1) = ys.take (k + 1) := by rw [List.take_add_one, List.take_add_one, h, hx, hy]
set_option maxHeartbeats 1000000 in
theorem equal_any (a1 a2 : Option Addr) (m1 m2 e1 e2 : Nat) (xs ys : List Int) (w : World) (h1 : Ints w w.heap.size a1 m1 xs) (h2 : Ints w w.heap.size a2 m2 ys) {X : Bool} (hX : X = decide (xs = ys)) :
    Calls Try.prog 70 #[.slice a1 m1 e1, .slice a2 m2 e2] w (BQ X w) := by
  have L1 := Lib.hid h1.len
  have L2 := Lib.hid h2.len
  have H1 := Lib.hid h1
  have H2 := Lib.hid h2
  have m1x := h1.max
  have m2x := h2.max
  have EX := Lib.hid hX
  clear h1 h2 hX
  by_cases hm : m1 = m2
  · subst hm
    have dm : (((m1 : Nat) : Int) != ((m1 : Nat) : Int)) = false := by simp
    go_enter Try.func70, Try.ntmps70
    go_wp2
    go_loopw [13, 5] (fun i _ wr => ∃ k : Nat, k ≤ m1 ∧ i = .int .i64 (k : Int) ∧ Hid (xs.take k = ys.take k) ∧ ∃ d, wr = w.drewN d) (fun i _ _ => m1 - (intOf i).toNat)
    case atStart => exact ⟨0, by omega, rfl, Lib.hid rfl, 0, rfl⟩
    case round =>
      obtain ⟨k, hk, rfl, HT, d, rfl⟩ := hrel
      by_cases hlt : k < m1
      · have dk : decide ((k : Int) < (m1 : Int)) = true := decide_eq_true (by omega)
        have dk' : decide (k < m1) = true := decide_eq_true hlt
        have hx : xs[k]? = some (xs[k]'(by rw [L1.out]; exact hlt)) := List.getElem?_eq_getElem _
        have hy : ys[k]? = some (ys[k]'(by rw [L2.out]; exact hlt)) := List.getElem?_eq_getElem _
        generalize xs[k]'(by rw [L1.out]; exact hlt) = x at hx
        generalize ys[k]'(by rw [L2.out]; exact hlt) = y at hy
        obtain ⟨b1, o1, rfl, l1, k1⟩ := H1.out.head (by omega)
        obtain ⟨b2, o2, rfl, l2, k2⟩ := H2.out.head (by omega)
        have x1 := k1 k x hx
        have x2 := k2 k y hy
        have HX := Lib.hid hx
        have HY := Lib.hid hy
        clear hx hy k1 k2
        by_cases hxy : x = y
        · subst hxy
          have dx : (x != x) = false := by simp
          have HN2 := Lib.hid (equal_next HT.out HX.out HY.out)
          go_wp2_with fail
          go_quiet (fail)
          go_wp2
          exact ⟨⟨k + 1, by omega, by simp, HN2, _, rfl⟩, by simp [intOf]; omega⟩
        · have dx : (x != y) = true := by simpa using hxy
          have EF : Hid (X = false) := Lib.hid (by rw [EX.out]; exact decide_eq_false (equal_off HX.out HY.out hxy))
          clear hxy
          go_wp2_with fail
          go_quiet (fail)
          go_wp2
          go_ret
          exact ⟨by rw [EF.out]; rfl, _, by first | rfl | rw [World.drewN_drewN]⟩
      · have dk : decide ((k : Int) < (m1 : Int)) = false := decide_eq_false (by omega)
        have dk' : decide (k < m1) = false := decide_eq_false hlt
        obtain rfl : k = m1 := by omega
        have EF : Hid (X = true) := Lib.hid (by
          have e := HT.out
          rw [List.take_of_length_le (by rw [L1.out]; omega), List.take_of_length_le (by rw [L2.out]; omega)] at e
          rw [EX.out]
          exact decide_eq_true e)
        go_wp2
        go_ret
        exact ⟨by rw [EF.out]; rfl, _, by first | rfl | rw [World.drewN_drewN]⟩
  · have dm : (((m1 : Nat) : Int) != ((m2 : Nat) : Int)) = true := by simp; omega
    have EF : Hid (X = false) := Lib.hid (by
      rw [EX.out]
      exact decide_eq_false (fun e => hm (by rw [← L1.out, ← L2.out, e])))
    clear hm
    go_enter Try.func70, Try.ntmps70
    go_wp2
    go_ret
    exact ⟨by rw [EF.out]; rfl, 0, rfl⟩
end Go.Proofs.Ytfkegbipfekbdaa
/-
  Package room: hasLarge, dropLarge, Drop of any arguments.
-/
namespace Go.Proofs.Ytfkegbipfekbdaa.Room
open Go.ChangeShapes Go.WideShapes Go.ChangeAt Go.RowKit
open Sh (Shl Ps Sw Uw Sr Sm Fx Adr Lab Nxt Far nums usedS mem_nums)
set_option maxRecDepth 100000

theorem step_delete_run {t k : TypeId} {w : World} {ops : Array Oper} {o : Oper} {a : Act} {K : Act → World → Prop} {Q : Exit → Act → World → Prop} {E : Prop} (hgd : o.guard = none) (m x : Operand)
    (hop : o.op = Op.call { callee := Callee.builtin Builtin.delete, args := #[m, x], argTypes := #[t, k] }) {mv key : Value} (hm : a.eval m = mv) (hx : a.eval x = key) {R : World → Prop}
    (hr : ∀ ty, ∃ w', (Builtin.delete_ #[t, k] ty #[mv, key]).run Try.prog w = .ok (.tuple #[]) w' ∧ R w') (h : ∀ w', R w' → K (a.put o.dst (.tuple #[])) w') : if Region.wanted o (yielded ops a.tmps) = true then Oper.wp Try.prog o a w K Q else E := by
  have hw : Region.wanted o (yielded ops a.tmps) = true := by simp [Region.wanted, hgd]
  rw [if_pos hw]
  obtain ⟨w', h1, h2⟩ := hr o.type
  unfold Oper.wp
  simp [execOp, hop, resolve, invoke, builtin, hm, hx, h1, Result.andThen]
  exact h w' h2
section
variable {w w0 w1 w4 w5 w6 wr : World} {y : Gx} {x : Nat → Fx} {A : Nat → Adr} {lab : Nat → Lab} {V : Int → Value} {Q : Nat → Prop} {r r' : Rom} {m : Nat} {l : Int} {p : Pc} {pa : Option Addr} {pl pc : Nat}
theorem below1f (w : World) (o : Obj) (k : Nat) : Below w.heap.size w ((w.alloc o).drewN k) := belowN (below1 w o) k
theorem ghas_off (g : Nat) (p : Pc) (pa : Option Addr) (pl pc : Nat) (hc : p.cl ≠ -1) (w : World) :
    Calls Try.prog 41 #[.pointer (some ⟨g, 0, none⟩), .agg #[.int .i64 p.cl, .int .i64 p.n, .int .i64 p.i, .slice pa pl pc]] w (BB false w) := by
  obtain ⟨pcl, pn, pi, ps⟩ := p
  have d0 : (pcl != -1) = true := by simpa using hc
  have HB := Lib.hid (below1 w (.cells #[.int .i64 pcl, .int .i64 pn, .int .i64 pi, .slice pa pl pc] 36))
  clear hc
  go_enter Try.func41, Try.ntmps41
  go_wp2
  go_ret
  exact ⟨rfl, HB.out⟩
theorem ghas_nil (p : Pc) (pa : Option Addr) (pl pc : Nat) (w : World) :
    Calls Try.prog 41 #[.pointer none, .agg #[.int .i64 p.cl, .int .i64 p.n, .int .i64 p.i, .slice pa pl pc]] w (BB false w) := by
  obtain ⟨pcl, pn, pi, ps⟩ := p
  have HB := Lib.hid (below1 w (.cells #[.int .i64 pcl, .int .i64 pn, .int .i64 pi, .slice pa pl pc] 36))
  go_enter Try.func41, Try.ntmps41
  go_wp2
  go_ret
  exact ⟨rfl, HB.out⟩
set_option maxHeartbeats 1000000 in
theorem ghas_large (h : Gm w y x A lab V Q r) (p : Pc) (pa : Option Addr) (pl pc : Nat) (hps : Ints w w.heap.size pa pl p.ps) (hn : Pl.Fit p.n) (hc : p.cl = -1) {X : Bool} (hX : X = decide ((p.n, p.ps) ∈ r.lg)) :
    Calls Try.prog 41 #[.pointer (some ⟨y.g, 0, none⟩), .agg #[.int .i64 p.cl, .int .i64 p.n, .int .i64 p.i, .slice pa pl pc]] w (BB X w) := by
  obtain ⟨pcl, pn, pi, ps⟩ := p
  dsimp only at hps hn hc hX ⊢
  subst hc
  have k6 := h.cl.k6
  have hl : y.g < w.heap.size := h.cl.gl
  have HL : Hid (∀ k, (Instr.lookup 63 (.map (some y.mm)) (.int .i64 pn) true).run Try.prog ((w.alloc (.cells #[.int .i64 (-1), .int .i64 pn, .int .i64 pi, .slice pa pl pc] 36)).drewN k) = .ok (.tuple #[if pn ∈ firsts r.lg then V pn else .slice none 0 0, .bool (decide (pn ∈ firsts r.lg))]) ((w.alloc (.cells #[.int .i64 (-1), .int .i64 pn, .int .i64 pi, .slice pa pl pc] 36)).drewN k)) := Lib.hid fun k =>
    (h.map.but (Below.but (below1f w _ k) (fun _ => False)) id).look hn
  have HB := Lib.hid (below1 w (.cells #[.int .i64 (-1), .int .i64 pn, .int .i64 pi, .slice pa pl pc] 36))
  by_cases hm : pn ∈ firsts r.lg
  · obtain ⟨q, hq, e⟩ := List.mem_map.1 hm
    obtain ⟨qn, qs⟩ := q
    dsimp only at e
    subst e
    obtain ⟨a, cap, ev, iq⟩ := h.large _ hq
    dsimp only at ev iq
    have hx : X = decide (qs = ps) := by
      rw [hX, decide_eq_decide]
      constructor
      · intro z
        have := first_one r.lg (qn, qs) (qn, ps) h.wf.lgn hq z rfl
        exact congrArg Prod.snd this
      · intro z
        rw [← z]
        exact hq
    have dm : decide (qn ∈ firsts r.lg) = true := decide_eq_true hm
    rw [dm, if_pos hm, ev] at HL
    have HE : Hid (∀ k, Calls Try.prog 70 #[.slice a qs.length cap, .slice pa pl pc] ((w.alloc (.cells #[.int .i64 (-1), .int .i64 qn, .int .i64 pi, .slice pa pl pc] 36)).drewN k) (BQ X ((w.alloc (.cells #[.int .i64 (-1), .int .i64 qn, .int .i64 pi, .slice pa pl pc] 36)).drewN k))) := Lib.hid fun k => by
      have b := below1f w (.cells #[.int .i64 (-1), .int .i64 qn, .int .i64 pi, .slice pa pl pc] 36) k
      exact equal_any a pa _ pl cap pc qs ps _ (iq.ints.on b) (hps.on b) hx
    generalize qs.length = ql at HL HE
    have kW : (w.alloc (.cells #[.int .i64 (-1), .int .i64 qn, .int .i64 pi, .slice pa pl pc] 36)).cell? ⟨y.g, 6, none⟩ = some (.map (some y.mm)) ∧ (w.alloc (.cells #[.int .i64 (-1), .int .i64 qn, .int .i64 pi, .slice pa pl pc] 36)).cell? ⟨w.heap.size, 1, none⟩ = some (.int .i64 qn) ∧ (Instr.lookup 63 (.map (some y.mm)) (.int .i64 qn) true).run Try.prog (w.alloc (.cells #[.int .i64 (-1), .int .i64 qn, .int .i64 pi, .slice pa pl pc] 36)) = .ok (.tuple #[.slice a ql cap, .bool true]) (w.alloc (.cells #[.int .i64 (-1), .int .i64 qn, .int .i64 pi, .slice pa pl pc] 36)) := ⟨((Below.but (below1 w _) (fun _ => False)).cell (p := ⟨y.g, 6, none⟩) hl id).trans k6, by go_simp, HL.out 0⟩
    have kD : (w.alloc (.cells #[.int .i64 (-1), .int .i64 qn, .int .i64 pi, .slice pa pl pc] 36)).drew.cell? ⟨y.g, 6, none⟩ = some (.map (some y.mm)) ∧ (w.alloc (.cells #[.int .i64 (-1), .int .i64 qn, .int .i64 pi, .slice pa pl pc] 36)).drew.cell? ⟨w.heap.size, 1, none⟩ = some (.int .i64 qn) ∧ (Instr.lookup 63 (.map (some y.mm)) (.int .i64 qn) true).run Try.prog (w.alloc (.cells #[.int .i64 (-1), .int .i64 qn, .int .i64 pi, .slice pa pl pc] 36)).drew = .ok (.tuple #[.slice a ql cap, .bool true]) (w.alloc (.cells #[.int .i64 (-1), .int .i64 qn, .int .i64 pi, .slice pa pl pc] 36)).drew := ⟨kW.1, kW.2.1, HL.out 1⟩
    clear h hps hX hm hq ev iq hx dm
    go_enter Try.func41, Try.ntmps41
    go_wp2_with fail
    go_region_held3 (fun v => v.cell? ⟨y.g, 6, none⟩ = some (.map (some y.mm)) ∧ v.cell? ⟨w.heap.size, 1, none⟩ = some (.int .i64 qn) ∧ (Instr.lookup 63 (.map (some y.mm)) (.int .i64 qn) true).run Try.prog v = .ok (.tuple #[.slice a ql cap, .bool true]) v)
      (first | with_reducible exact kD | with_reducible exact kW | go_keep)
      (fail)
    clear kW kD
    go_wp2_with fail
    refine (HE.out _).mono ?_
    rintro e w' ⟨rfl, n, rfl⟩
    go_wp2
    go_ret
    exact ⟨rfl, belowN HB.out _⟩
  · have hx : X = false := by
      rw [hX]
      exact decide_eq_false (fun z => hm (firsts_mem z))
    subst hx
    have dm : decide (pn ∈ firsts r.lg) = false := decide_eq_false hm
    rw [dm, if_neg hm] at HL
    have kW : (w.alloc (.cells #[.int .i64 (-1), .int .i64 pn, .int .i64 pi, .slice pa pl pc] 36)).cell? ⟨y.g, 6, none⟩ = some (.map (some y.mm)) ∧ (w.alloc (.cells #[.int .i64 (-1), .int .i64 pn, .int .i64 pi, .slice pa pl pc] 36)).cell? ⟨w.heap.size, 1, none⟩ = some (.int .i64 pn) ∧ (Instr.lookup 63 (.map (some y.mm)) (.int .i64 pn) true).run Try.prog (w.alloc (.cells #[.int .i64 (-1), .int .i64 pn, .int .i64 pi, .slice pa pl pc] 36)) = .ok (.tuple #[.slice none 0 0, .bool false]) (w.alloc (.cells #[.int .i64 (-1), .int .i64 pn, .int .i64 pi, .slice pa pl pc] 36)) := ⟨((Below.but (below1 w _) (fun _ => False)).cell (p := ⟨y.g, 6, none⟩) hl id).trans k6, by go_simp, HL.out 0⟩
    have kD : (w.alloc (.cells #[.int .i64 (-1), .int .i64 pn, .int .i64 pi, .slice pa pl pc] 36)).drew.cell? ⟨y.g, 6, none⟩ = some (.map (some y.mm)) ∧ (w.alloc (.cells #[.int .i64 (-1), .int .i64 pn, .int .i64 pi, .slice pa pl pc] 36)).drew.cell? ⟨w.heap.size, 1, none⟩ = some (.int .i64 pn) ∧ (Instr.lookup 63 (.map (some y.mm)) (.int .i64 pn) true).run Try.prog (w.alloc (.cells #[.int .i64 (-1), .int .i64 pn, .int .i64 pi, .slice pa pl pc] 36)).drew = .ok (.tuple #[.slice none 0 0, .bool false]) (w.alloc (.cells #[.int .i64 (-1), .int .i64 pn, .int .i64 pi, .slice pa pl pc] 36)).drew := ⟨kW.1, kW.2.1, HL.out 1⟩
    clear h hps hX hm dm
    go_enter Try.func41, Try.ntmps41
    go_wp2_with fail
    go_region_held3 (fun v => v.cell? ⟨y.g, 6, none⟩ = some (.map (some y.mm)) ∧ v.cell? ⟨w.heap.size, 1, none⟩ = some (.int .i64 pn) ∧ (Instr.lookup 63 (.map (some y.mm)) (.int .i64 pn) true).run Try.prog v = .ok (.tuple #[.slice none 0 0, .bool false]) v)
      (first | with_reducible exact kD | with_reducible exact kW | go_keep)
      (fail)
    clear kW kD
    go_wp2
    go_ret
    exact ⟨rfl, belowN HB.out _⟩
end
end Go.Proofs.Ytfkegbipfekbdaa.Room
