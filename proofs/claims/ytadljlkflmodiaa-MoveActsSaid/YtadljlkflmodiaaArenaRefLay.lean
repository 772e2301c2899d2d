/-
  The document's own answers for package arena (almeryref06): lay, Write.
-/
import Derived.Test.YtadljlkflmodiaaArenaRef
namespace Go.Proofs.Ytadljlkflmodiaa
open Go.ChangeShapes Go.WideShapes Go.ChangeAt Go.RowKit

theorem infoByte : (Try.prog.info? 5).map (fun i => (i.zero, i.size, i.bytes)) = some (some (.int .u8 0), 1, 1) := by kernel_rfl
theorem own_row {w : World} {base g n cap : Nat} {e : TypeId} {xs : List Int} (h : w.ownsRow base e 1 (.slice (some ⟨g, 0, none⟩) n cap) n (xs.map (Value.int .u8))) (hn : 0 < n) (hm : n ≤ 4194304) (hf : Byt xs) : Row w g xs ∧ n ≤ cap ∧ base ≤ g := by
  have hlen : xs.length = n := by have := h.1; simpa using this
  have hlt := h.lt g rfl
  refine ⟨⟨fun k s hs => ?_, fun k _ => h.frozenAt k, hf, hlt.2, by omega⟩, ?_, hlt.1⟩
  · obtain ⟨hk, _⟩ := List.getElem?_eq_some_iff.1 hs
    have := h.cellAt k (by omega)
    rw [List.getElem?_map, hs] at this
    simpa using this
  · rcases h.2 with ⟨_, h0⟩ | ⟨g', cap', cur, hv, _, _, hc, _⟩
    · omega
    · injection hv with _ _ e3
      omega
/-- 'append([]byte{}, l...)': a copy of its own. -/
theorem clone_run {w : World} {a : Option Addr} {n c : Nat} {xs : List Int} (hy : Bytes w w.heap.size a n xs) (hn : 0 < n) (hm : n ≤ 4194304) :
    ∃ g cap w', (Builtin.append_ #[22, 22] 22 #[.slice (some ⟨w.heap.size, 0, none⟩) 0 0, .slice a n c]).run Try.prog (w.alloc (.cells #[] 5)) = .ok (.slice (some ⟨g, 0, none⟩) n cap) w' ∧
      Row w' g xs ∧ Below w.heap.size w w' ∧ n ≤ cap ∧ w.heap.size ≤ g := by
  obtain ⟨i0, hi, hz0, hz1, hz2⟩ := info_parts infoByte
  obtain ⟨b, o', rfl, hb, hcell⟩ := hy.head hn
  have ownA : (w.alloc (.cells #[] 5)).ownsRow w.heap.size 5 1 (.slice (some ⟨w.heap.size, 0, none⟩) 0 0) 0 [] := World.ownsRow_lit w #[] 0 (Nat.le_refl _) (by unfold maxLen; omega) rfl
  obtain ⟨g, cap, w', hrun, hown, hgrow, _, _⟩ := run_append_lies (P := Try.prog) (w.alloc (.cells #[] 5)) 22 22 w.heap.size 5 i0 (.int .u8 0) 1 1 slice31 hi hz0 hz1 hz2 rfl Nat.one_pos (.slice (some ⟨w.heap.size, 0, none⟩) 0 0) 0 [] ownA ⟨b, o', none⟩ n c (xs.map (Value.int .u8)) (by simp [hy.len])
    (fun j u hu => by
      rw [List.getElem?_map] at hu
      cases hx : xs[j]? with
      | none => rw [hx] at hu; simp at hu
      | some x =>
        rw [hx] at hu
        simp at hu
        subst hu
        have := (World.cell?_alloc_lt w (.cells #[] 5) ⟨b, o' + j, none⟩ hb).trans (hcell j x hx)
        by_cases h0 : j = 0
        · subst h0; simpa [Addr.add] using this
        · simpa [Addr.add, h0] using this)
    (fun u hu => by obtain ⟨x, _, rfl⟩ := List.mem_map.1 hu; rfl) hn (by unfold maxLen; omega) (by omega) (by simp) _ rfl
  rw [Nat.zero_add] at hrun hown
  rw [List.nil_append] at hown
  obtain ⟨hr, hc, hg⟩ := own_row hown hn hm hy.fit
  exact ⟨g, cap, w', hrun, hr, Below.grown (below1 w _) hgrow (by simp) (fun k hk => by simp [Value.ownBlock] at hk; omega), hc, hg⟩

/-- An append whose run is known, as a law for the walk. -/
theorem wpList_append_run {w w' : World} {ops : Array Oper} {rest : List Oper} {o : Oper} {a : Act} {Q : Exit → Act → World → Prop} {v v1 v2 : Value} (hgd : o.guard = none) (s x : Operand)
    (ho : o.op = .call { callee := .builtin .append, args := #[s, x], argTypes := #[22, 22] }) (hty : o.type = 22) (hs : a.eval s = v1) (hx : a.eval x = v2)
    (hrun : (Builtin.append_ #[22, 22] 22 #[v1, v2]).run Try.prog w = .ok v w') (h : wpList Try.prog ops Q rest (a.put o.dst v) w') : wpList Try.prog ops Q (o :: rest) a w := by
  refine wpList_plain hgd fun K hK => ?_
  unfold Oper.wp
  simp [execOp, ho, resolve, invoke, builtin, hs, hx, hty, hrun, Result.andThen]
  exact hK _ _ h

/-- Block q is a variable that holds a document's arena. -/
structure RB (w : World) (q : Nat) (a : Option Addr) (n c : Nat) (s : Int) : Prop where
  c0 : w.cell? ⟨q, 0, none⟩ = some (.slice a n c)
  c1 : w.cell? ⟨q, 1, none⟩ = some (.int .i64 s)
  f0 : w.frozen? ⟨q, 0, none⟩ = false
  f1 : w.frozen? ⟨q, 1, none⟩ = false
theorem RB.but {S : Nat → Prop} {w w' : World} {q n c : Nat} {a : Option Addr} {s : Int} (h : RB w q a n c s) (hb : But S w w') (hn : ¬ S q) : RB w' q a n c s :=
  have hq : q < w.heap.size := lt_of_cell (p := ⟨q, 0, none⟩) h.c0
  ⟨(hb.cell (p := ⟨q, 0, none⟩) hq hn).trans h.c0, (hb.cell (p := ⟨q, 1, none⟩) hq hn).trans h.c1, (hb.frozen (p := ⟨q, 0, none⟩) hq hn).trans h.f0, (hb.frozen (p := ⟨q, 1, none⟩) hq hn).trans h.f1⟩
theorem RB.below {w w' : World} {q n c : Nat} {a : Option Addr} {s : Int} (h : RB w q a n c s) (hb : Below w.heap.size w w') : RB w' q a n c s := h.but (Below.but hb fun _ => False) id
theorem RB.new (w : World) (a : Option Addr) (n c : Nat) (s : Int) : RB (w.alloc (.cells #[.slice a n c, .int .i64 s] 35)) w.heap.size a n c s := ⟨by go_simp, by go_simp, by go_simp, by go_simp⟩

theorem but_two (w : World) (q : Nat) (u v : Value) : But (· = q) w ((w.setCell ⟨q, 0, none⟩ u).setCell ⟨q, 1, none⟩ v) := ((But.refl (· = q) w).setCell (p := ⟨q, 0, none⟩) (fun _ => rfl) u).setCell (p := ⟨q, 1, none⟩) (fun _ => rfl) v
/-- The first k bytes are laid. -/
structure LaidTo (xs ys : List Int) (at_ g : Nat) (w : World) (k : Nat) (w' : World) : Prop where
  row : Row w' g (splice xs at_ (ys.take k))
  but : But (· = g) w w'
theorem LaidTo.length {xs ys : List Int} {at_ g : Nat} {w w' : World} {k : Nat} (_ : LaidTo xs ys at_ g w k w') (h : at_ + ys.length ≤ xs.length) : (splice xs at_ (ys.take k)).length = xs.length :=
  length_splice _ _ _ (by rw [List.length_take]; omega)
theorem LaidTo.next {xs ys : List Int} {at_ g : Nat} {w w' : World} {k : Nat} {y : Int} (h : LaidTo xs ys at_ g w k w') (hl : at_ + ys.length ≤ xs.length) (hy : ys[k]? = some y) (hb : 0 ≤ y ∧ y ≤ 255) : LaidTo xs ys at_ g w (k + 1) (w'.setCell ⟨g, at_ + k, none⟩ (.int .u8 y)) := by
  refine ⟨?_, h.but.setCell (p := ⟨g, at_ + k, none⟩) (fun _ => rfl) _⟩
  rw [← splice_set hl hy]
  have hk := (List.getElem?_eq_some_iff.1 hy).1
  exact h.row.set (by rw [h.length hl]; omega) hb.1 hb.2

theorem refLay_any (a : Option Addr) (n c : Nat) (s : Int) (at_ : Nat) (ya : Option Addr) (yn yc : Nat) (xs ys : List Int) (w : World) (hx : Bytes w w.heap.size a n xs) (hy : Bytes w w.heap.size ya yn ys) (hn : 0 < n) (hm : n ≤ 4194304) (hf : at_ + yn ≤ n) :
    Calls Try.prog 29 #[.agg #[.slice a n c, .int .i64 s], .int .i64 (at_ : Int), .slice ya yn yc] w fun e w' => ∃ g cap, e = .returned (.agg #[.slice (some ⟨g, 0, none⟩) n cap, .int .i64 s]) ∧ Row w' g (splice xs at_ ys) ∧ Below w.heap.size w w' ∧ n ≤ cap ∧ w.heap.size ≤ g := by
  have bW := below2 w (.cells #[.slice a n c, .int .i64 s] 35) (.cells #[.slice none 0 0, .int .i64 0] 35)
  have X0 : RB ((w.alloc (.cells #[.slice a n c, .int .i64 s] 35)).alloc (.cells #[.slice none 0 0, .int .i64 0] 35)) w.heap.size a n c s := (RB.new w a n c s).below (below1 _ _)
  have Z0 : RB ((w.alloc (.cells #[.slice a n c, .int .i64 s] 35)).alloc (.cells #[.slice none 0 0, .int .i64 0] 35)) (w.heap.size + 1) none 0 0 0 := by
    have := RB.new (w.alloc (.cells #[.slice a n c, .int .i64 s] 35)) none 0 0 0
    simpa using this
  obtain ⟨g, cap, w2, hrun, R2, b2, hcap, hg⟩ := clone_run (c := c) (hx.on bW) hn hm
  have X2 := Lib.hid (X0.below b2)
  have Z2 := Lib.hid (Z0.below b2)
  have B2 := Lib.hid (belowT bW b2)
  have HG : Hid (w.heap.size + 2 ≤ g) := Lib.hid (by simp at hg; exact hg)
  have R := Lib.hid R2
  have HC := Lib.hid hcap
  have HY := Lib.hid (hy.below B2.out)
  have HL : Hid (at_ + ys.length ≤ xs.length) := Lib.hid (by rw [hx.len, hy.len]; exact hf)
  have HX := Lib.hid hx.len
  have F0 : Hid (LaidTo xs ys at_ g w2 0 w2) := Lib.hid ⟨by rw [List.take_zero, splice_nil _ _ (by rw [hx.len]; omega)]; exact R2, But.refl _ _⟩
  have hyl := hy.len
  have hfit := hy.fit
  have HYL := Lib.hid hyl
  have HFT := Lib.hid hfit
  simp at hrun
  have HRN := Lib.hid hrun
  clear X0 Z0 R2 b2 hcap hg bW hx hy hyl hfit hrun
  go_enter Try.func29, Try.ntmps29
  go_wp2_with (at_builtin; refine wpList_append_run rfl _ _ rfl rfl rfl rfl HRN.out ?_)
  go_loopw [8] (fun i wr => ∃ k : Nat, k ≤ yn ∧ i = .int .i64 k ∧ LaidTo xs ys at_ g w2 k wr) (fun i _ => yn - (intOf i).toNat)
  case atStart => exact ⟨0, by omega, rfl, F0.out⟩
  case round =>
    obtain ⟨k, hk, rfl, hr⟩ := hrel
    by_cases hlt : k < yn
    · have dk : decide ((k : Int) < (yn : Int)) = true := by simp; omega
      have Y2 := HY.out.but hr.but (B := w.heap.size) B2.out.size (fun i hi e => by have := HG.out; omega)
      obtain ⟨y, hyk, y0, y1⟩ := Y2.at_ hlt
      obtain ⟨b0, o0, rfl, hb0, hcell⟩ := Y2.head (by omega)
      have hcy := hcell k y hyk
      have hw : IntKind.i64.wrap ((at_ : Int) + (k : Int)) = ((at_ + k : Nat) : Int) := by rw [IntWalk.i64_in _ (by omega)]; simp
      have hcx := hr.row.cell (at_ + k) _ (List.getElem?_eq_getElem (by rw [hr.length HL.out, HX.out]; omega))
      have hfx := hr.row.free (at_ + k) (by rw [hr.length HL.out, HX.out]; omega)
      generalize (splice xs at_ (ys.take k))[at_ + k]'(by rw [hr.length HL.out, HX.out]; omega) = z at hcx
      have HR := Lib.hid (hr.next HL.out hyk ⟨y0, y1⟩)
      obtain ⟨j, hj⟩ : ∃ j, j = at_ + k := ⟨_, rfl⟩
      rw [← hj] at hw hcx hfx HR
      have hjn : j < n := by omega
      clear hr hcell hyk Y2 hj
      go_wp2
      exact ⟨⟨k + 1, by omega, by simp, HR.out⟩, by simp [intOf]; omega⟩
    · have dk : decide ((k : Int) < (yn : Int)) = false := by simp; omega
      obtain rfl : k = yn := by omega
      have HR := Lib.hid hr
      obtain ⟨p0, p1, p2, p3⟩ := X2.out.but hr.but (fun e => by have := HG.out; omega)
      obtain ⟨q0, q1, q2, q3⟩ := Z2.out.but hr.but (fun e => by have := HG.out; omega)
      clear hr
      go_wp2
      refine bodyPost_ret (v := .agg #[.slice (some ⟨g, 0, none⟩) n cap, .int .i64 s]) (by simp [results, Try.results29, go_sem, q0, q1]) rfl ?_
      have hR := HR.out.row
      rw [List.take_of_length_le (by rw [HYL.out]; omega)] at hR
      have hg := HG.out
      have hs := B2.out.size
      have hlt2 : w.heap.size + 1 < wr.heap.size := lt_of_cell (p := ⟨w.heap.size + 1, 0, none⟩) q0
      have hb : But (fun i => i = w.heap.size ∨ i = w.heap.size + 1) wr _ := (((But.refl _ wr).setCell (p := ⟨w.heap.size, 0, none⟩) (fun _ => Or.inl rfl) (.slice (some ⟨g, 0, none⟩) n cap)).setCell (p := ⟨w.heap.size + 1, 0, none⟩) (fun _ => Or.inr rfl) (.slice (some ⟨g, 0, none⟩) n cap)).setCell (p := ⟨w.heap.size + 1, 1, none⟩) (fun _ => Or.inr rfl) (.int .i64 s)
      exact ⟨g, cap, rfl, hR.but hb (fun e => by omega), (B2.out.trans (HR.out.but.one hs (by omega))).trans (hb.below (by omega) (fun k hk e => by omega)), HC.out, by omega⟩
end Go.Proofs.Ytadljlkflmodiaa
