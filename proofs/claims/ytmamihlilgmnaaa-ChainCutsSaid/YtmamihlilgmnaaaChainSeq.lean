/-
  The iterator of package chain (the function that spans returns) keeps its word: it tells the spans of the bytes from x up to e, in turn.
-/
import Derived.Test.YtmamihlilgmnaaaChainTake
import Derived.Test.YtmamihlilgmnaaaRange
import Derived.Deep.Cut
import Derived.StillTailTactics
import Derived.LoopNIn
import Derived.LoopIn
import Derived.Laws.Cover1
namespace Go.Proofs.Ytmamihlilgmnaaa
open Go.ChangeShapes Go.WideShapes Go.ChangeAt Go.RowKit Go.Shelf

/-- What a round is told: the span of the byte x, and where the next one begins. -/
def Yc (p e : Nat) (_ : Nat) (x : Nat) (vs : Array Value) (y : Nat) (_ : World) : Prop := x < e ∧ vs = #[(spn p e x).val] ∧ y = nxt p e x
/-- The boxes that the iterator is bound to. -/
def bound3 (c : Nat) : Array Value := #[.pointer (some ⟨c, 0, none⟩), .pointer (some ⟨c + 1, 0, none⟩), .pointer (some ⟨c + 2, 0, none⟩)]

/-- The iterator's loop: the span at hand in a variable of its own, the boxes of what is left behind it, what the caller says. -/
structure Lc (W : World) (d p e : Nat) (J : Nat → World → Prop) (v : Value) (x : Nat) (wr : World) : Prop where
  le : x ≤ e
  size : W.heap.size ≤ wr.heap.size
  box : Bxs wr d (nxt p e x) (e - nxt p e x) p
  slot : ∃ q, v = .pointer (some ⟨q, 0, none⟩) ∧ Cs wr q (spn p e x).cells ∧ d + 3 ≤ q
  says : J x wr
/-- How many bytes are left: the span's, and those behind it. -/
def measc (d : Nat) : Value → World → Nat
  | .pointer (some p), w => (intOf ((w.cell? ⟨p.block, 2, none⟩).getD undef)).toNat + (intOf ((w.cell? ⟨d + 1, 0, none⟩).getD undef)).toNat
  | _, _ => 0
theorem Lc.meas {W wr : World} {d p e x : Nat} {J : Nat → World → Prop} {v : Value} (h : Lc W d p e J v x wr) (hp : 1 ≤ p) : measc d v wr = e - x := by
  obtain ⟨q, rfl, hc, _⟩ := h.slot
  have h1 : wr.cell? ⟨q, 2, none⟩ = some (.int .i64 ((nxt p e x - x : Nat) : Int)) := hc.cell 2 _ rfl
  have h2 : wr.cell? ⟨d + 1, 0, none⟩ = some (.int .i64 ((e - nxt p e x : Nat) : Int)) := h.box.n.cell 0 _ rfl
  have h3 := h.le
  have h4 := nxt_le p e x
  have h5 : x ≤ nxt p e x := by
    rcases Nat.lt_or_ge x e with g | g
    · exact Nat.le_of_lt (nxt_gt hp g)
    · obtain rfl : x = e := by omega
      have := page_of hp x
      unfold nxt
      omega
  simp [measc, h1, h2, intOf]
  omega

set_option maxRecDepth 100000 in
set_option maxHeartbeats 2000000 in
theorem spans_seq {c x e p N : Nat} {w0 : World} (hx : Bxs w0 c x (e - x) p) (hp : 1 ≤ p) (hp2 : p ≤ 9223372036854775807) (hle : x ≤ e) (he : e ≤ 16777216) (hN : N ≤ c) :
    Seq Try.prog 17 (bound3 c) (Yc p e) (fun x => e ≤ x) x N w0 := by
  intro l J Jx W hW hl1 hl2 hJ hY h0
  refine callsIn_of_wp Try.func17 rfl trivial ?_ rfl
  refine wpIn_wide.2 ?_
  have hlt := hx.lt
  have bx : Bxs W c x (e - x) p := hx.but (Below.but hW (fun _ => False)) ⟨id, id, id⟩
  have c0 := bx.at_.cell 0 _ rfl
  have c1 := bx.n.cell 0 _ rfl
  have c2 := bx.page.cell 0 _ rfl
  have HC := Lib.hid (cutter_any x (e - x) p W)
  obtain ⟨tb, tl, ts⟩ := three_box W x (e - x) p
  have TB := Lib.hid tb
  have TL := Lib.hid tl
  have TS := Lib.hid ts
  have HN : Hid (∀ (d y : Nat) (v : World), Bxs v d y (e - y) p → y ≤ e → Calls Try.prog 21 #[.pointer (some ⟨d, 0, none⟩), .pointer (some ⟨d + 2, 0, none⟩), .pointer (some ⟨d + 1, 0, none⟩)] v fun E w' => E = .returned (.agg #[.int .i64 ((spn p e y).n : Int), .int .i64 ((spn p e y).a : Int), .int .i64 ((spn p e y).l : Int)]) ∧ Bxs w' d (nxt p e y) (e - nxt p e y) p ∧ But (fun k => k = d ∨ k = d + 1) v w') := Lib.hid (fun d y v hv hy => next_any d y e p v hv hp hp2 hy he)
  have HX := Lib.hid hx
  have HJ0 := Lib.hid h0
  have HJ := Lib.hid hJ
  have HY := Lib.hid hY
  have HLE := Lib.hid hle
  have HE := Lib.hid he
  have HNc := Lib.hid hN
  clear bx hx h0 hJ hY tb tl ts
  simp only [bound3, Try.ntmps17, List.size_toArray, List.length_cons, List.length_nil, Nat.reduceAdd, Nat.reduceSub, Array.replicate_succ, Array.replicate_zero, List.push_toArray, List.append_toArray, List.nil_append, List.cons_append]
  go_wp2_with fail
  refine HC.out.mono ?_
  rintro E w1 ⟨rfl, rfl⟩
  generalize three W x (e - x) p = w1 at TB TL TS ⊢
  have HN1 := Lib.hid (HN.out _ _ _ TB.out HLE.out)
  clear c0 c1 c2 HC
  go_wp2_with fail
  refine HN1.out.mono ?_
  rintro E w2 ⟨rfl, bx2, b2⟩
  have sz : W.heap.size + 3 ≤ w2.heap.size := by have := TS.out; have := b2.size; omega
  have L0 : Hid (Lc W W.heap.size p e J (.pointer (some ⟨w2.heap.size, 0, none⟩)) x (w2.alloc (.cells #[.int .i64 ((spn p e x).n : Int), .int .i64 ((spn p e x).a : Int), .int .i64 ((spn p e x).l : Int)] 29))) := Lib.hid (by
    have b3 := below1 w2 (.cells #[.int .i64 ((spn p e x).n : Int), .int .i64 ((spn p e x).a : Int), .int .i64 ((spn p e x).l : Int)] 29)
    refine ⟨hle, by rw [World.size_alloc]; omega, bx2.but (Below.but b3 (fun _ => False)) ⟨id, id, id⟩, ⟨_, rfl, Cs.new w2 _ _ rfl, sz⟩, ?_⟩
    refine HJ.out _ _ _ HJ0.out ?_
    exact ((Below.but TL.out _).trans (b2.mono fun i _ q => by omega)).trans (Below.but b3 _))
  clear bx2 b2 HN1
  go_wp2
  generalize hw3 : w2.alloc (.cells #[.int .i64 ((spn p e x).n : Int), .int .i64 ((spn p e x).a : Int), .int .i64 ((spn p e x).l : Int)] 29) = w3 at L0 ⊢
  clear hw3
  go_loopw [6] (fun v wr => ∃ y, Hid (Lc W W.heap.size p e J v y wr)) (fun v wr => measc W.heap.size v wr)
  case atStart => exact ⟨x, L0⟩
  case round =>
    obtain ⟨y, HR⟩ := hrel
    clear L0 TB TL TS HX HJ0
    have ME := Lib.hid (HR.out.meas hp)
    obtain ⟨q, rfl, hc, hq⟩ := HR.out.slot
    obtain ⟨sn, hsn⟩ : ∃ z, (spn p e y).n = z := ⟨_, rfl⟩
    obtain ⟨sa, hsa⟩ : ∃ z, (spn p e y).a = z := ⟨_, rfl⟩
    obtain ⟨sl, hsl⟩ : ∃ z, (spn p e y).l = z := ⟨_, rfl⟩
    have hval : Hid ((spn p e y).val = .agg #[.int .i64 (sn : Int), .int .i64 (sa : Int), .int .i64 (sl : Int)]) := Lib.hid (by unfold Sp.val; rw [hsn, hsa, hsl])
    unfold Sp.cells at hc
    rw [hsn, hsa, hsl] at hc
    have HCS := Lib.hid hc
    have c0 := hc.cell 0 _ rfl
    have c1 := hc.cell 1 _ rfl
    have c2 := hc.cell 2 _ rfl
    have HSL := Lib.hid hsl
    clear hc hsn hsa hsl
    rcases Nat.lt_or_ge y e with hy | hy
    · have hl : (0 : Int) < (sl : Int) := by
        have := (spn_facts hp hy).2.1
        rw [HSL.out] at this
        omega
      have hl0 : 0 < sl := by omega
      go_upto_region 4 with fail
      obtain ⟨fn, tmps, assign, body, hyl, hRd⟩ := HY.out y #[.agg #[.int .i64 (sn : Int), .int .i64 (sa : Int), .int .i64 (sl : Int)]] (nxt p e y) wr HR.out.says HR.out.size ⟨hy, by rw [hval.out], rfl⟩
      have HRD := Lib.hid hRd
      clear hRd
      refine (wpIn_wide (n := 2)).1 ?_
      gi_wp2
      refine HRD.out.mono ?_
      rintro E w6 (⟨rfl, hJ6, hb6⟩ | ⟨rfl, hx6⟩)
      · have hWs := HR.out.size
        have hNc := HNc.out
        have hWl : w0.heap.size ≤ W.heap.size := hW.size
        have hns : ∀ i, W.heap.size ≤ i → ¬ (i < N ∨ i = l) := fun i hi q => by omega
        have C6 := HCS.out.but hb6 (hns q (by omega))
        have c0 := C6.cell 0 _ rfl
        have c1 := C6.cell 1 _ rfl
        have c2 := C6.cell 2 _ rfl
        have B6 := Lib.hid (HR.out.box.but hb6 ⟨hns _ (by omega), hns _ (by omega), hns _ (by omega)⟩)
        have b7 := below1 w6 (.cells #[.int .i64 (sn : Int), .int .i64 (sa : Int), .int .i64 (sl : Int)] 29)
        have HN7 := Lib.hid (HN.out _ _ _ (B6.out.but (Below.but b7 (fun _ => False)) ⟨id, id, id⟩) (nxt_le p e y))
        have V7 := Lib.hid (Cs.new w6 #[.int .i64 (sn : Int), .int .i64 (sa : Int), .int .i64 (sl : Int)] 29 rfl)
        have HJ6 := Lib.hid hJ6
        have B7 := Lib.hid b7
        have hlt6 := Lib.hid B6.out.lt
        clear C6 hb6 hJ6 b7 HRD hyl hWs hNc hns
        gi_wp2
        go_wp2_with fail
        refine HN7.out.mono ?_
        rintro E w8 ⟨rfl, bx8, b8⟩
        have V8 := V7.out.but b8 (by intro q; rcases q with q | q <;> (have := hlt6.out; omega))
        have v0 := V8.cell 0 _ rfl
        have v1 := V8.cell 1 _ rfl
        have v2 := V8.cell 2 _ rfl
        have f0 := V8.free 0 (by simp)
        have f1 := V8.free 1 (by simp)
        have f2 := V8.free 2 (by simp)
        have NX : Hid (Lc W W.heap.size p e J (.pointer (some ⟨w6.heap.size, 0, none⟩)) (nxt p e y) (((w8.setCell ⟨w6.heap.size, 0, none⟩ (.int .i64 ((spn p e (nxt p e y)).n : Int))).setCell ⟨w6.heap.size, 1, none⟩ (.int .i64 ((spn p e (nxt p e y)).a : Int))).setCell ⟨w6.heap.size, 2, none⟩ (.int .i64 ((spn p e (nxt p e y)).l : Int)))) := Lib.hid (by
          have h6 := hlt6.out
          have b9 : But (· = w6.heap.size) w8 (((w8.setCell ⟨w6.heap.size, 0, none⟩ (.int .i64 ((spn p e (nxt p e y)).n : Int))).setCell ⟨w6.heap.size, 1, none⟩ (.int .i64 ((spn p e (nxt p e y)).a : Int))).setCell ⟨w6.heap.size, 2, none⟩ (.int .i64 ((spn p e (nxt p e y)).l : Int))) :=
            (((But.refl (· = w6.heap.size) w8).setCell (p := ⟨w6.heap.size, 0, none⟩) (fun _ => rfl) _).setCell (p := ⟨w6.heap.size, 1, none⟩) (fun _ => rfl) _).setCell (p := ⟨w6.heap.size, 2, none⟩) (fun _ => rfl) _
          refine ⟨nxt_le p e y, ?_, bx8.but b9 ⟨by omega, by omega, by omega⟩, ⟨_, rfl, ((V8.set 0 _).set 1 _).set 2 _, by omega⟩, ?_⟩
          · have h7 := b9.size
            have h8 := b8.size
            rw [World.size_alloc] at h8
            omega
          · refine HJ.out _ _ _ HJ6.out ?_
            exact ((Below.but B7.out _).trans (b8.mono fun i _ q => by omega)).trans (b9.mono fun i _ q => by omega))
        have ML : Hid (measc W.heap.size (.pointer (some ⟨w6.heap.size, 0, none⟩)) (((w8.setCell ⟨w6.heap.size, 0, none⟩ (.int .i64 ((spn p e (nxt p e y)).n : Int))).setCell ⟨w6.heap.size, 1, none⟩ (.int .i64 ((spn p e (nxt p e y)).a : Int))).setCell ⟨w6.heap.size, 2, none⟩ (.int .i64 ((spn p e (nxt p e y)).l : Int))) < measc W.heap.size (.pointer (some ⟨q, 0, none⟩)) wr) := Lib.hid (by
          rw [NX.out.meas hp, ME.out]
          have := nxt_gt hp hy
          omega)
        clear bx8 b8 V8
        go_wp2
        go_roundw
        case rel => exact ⟨_, NX⟩
        case measure => exact ML.out
      · gi_wp2
        go_wp2
        refine bodyPost_ret (results_none rfl _ _ _) rfl ?_
        exact ⟨⟨_, rfl⟩, .inr hx6⟩
    · have hl : ¬ (0 : Int) < (sl : Int) := by
        obtain rfl : y = e := by have := HR.out.le; omega
        have : (spn p y y).l = nxt p y y - y := rfl
        have := nxt_le p y y
        have := HSL.out
        omega
      have dl : decide ((0 : Int) < (sl : Int)) = false := decide_eq_false hl
      have hl0 : sl = 0 := by omega
      clear hl
      subst hl0
      go_wp2
      go_end0
      exact ⟨⟨_, rfl⟩, .inl ⟨y, hy, HR.out.says⟩⟩
end Go.Proofs.Ytmamihlilgmnaaa
