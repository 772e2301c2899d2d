/-
  An act of ring's laws (almeryref07.Act), as plain data, opened out of an argument; what an act comes to; the law's own 'do' and the document's 'Do'.
-/
import Derived.Test.YtakecddjpdiojaaRingRefPush
import Derived.Test.YtakecddjpdiojaaRecs
namespace Go.Proofs.Ytakecddjpdiojaa
open Go.ChangeShapes Go.WideShapes Go.ChangeAt Go.RowKit Go.Deep

structure Ac where
  drop : Bool
  list : Int
  node : Int
instance : Inhabited Ac := ⟨⟨false, 0, 0⟩⟩
def Ac.cells (u : Ac) : List Value := [.bool u.drop, .int .i64 u.list, .int .i64 u.node]
def Ac.ok (u : Ac) (_ : World) (_ : Nat) : Prop := (-9223372036854775808 ≤ u.list ∧ u.list ≤ 9223372036854775807) ∧ -9223372036854775808 ≤ u.node ∧ u.node ≤ 9223372036854775807
def Acts (w : World) (B : Nat) (a : Option Addr) (n : Nat) (us : List Ac) : Prop := Recs Ac.cells Ac.ok 3 w B a n us
theorem Acts.below {w w' : World} {B n : Nat} {a : Option Addr} {us : List Ac} (h : Acts w B a n us) (hb : Below B w w') : Acts w' B a n us := Recs.below h (fun _ q => q) hb
section
variable {H : Type} {enc : TypeId × Value → H} {w : World}
theorem act_cells (cs : List Value) (fuel : Nat) (x : DataW H × List MemPlace) (h : DataW.trod enc Try.prog w 0 (fun _ => true) true fuel 35 cs = some x) : ∃ u : Ac, cs = u.cells ∧ u.ok w w.heap.size := by
  obtain ⟨hl, hf⟩ := fields_of Try.underlying35 (by kernel_rfl) (by kernel_rfl) h
  match cs, hl with
  | [v0, v1, v2], _ =>
    obtain ⟨u0, _, n0, e0, t0⟩ := hf 0 _ rfl
    obtain ⟨u1, _, n1, e1, t1⟩ := hf 1 _ rfl
    obtain ⟨u2, _, n2, e2, t2⟩ := hf 2 _ rfl
    simp at e0 e1 e2
    subst e0 e1 e2
    obtain ⟨a0, rfl⟩ := bool_field t0
    obtain ⟨a1, rfl, f1⟩ := i64_field t1
    obtain ⟨a2, rfl, f2⟩ := i64_field t2
    exact ⟨⟨a0, a1, a2⟩, rfl, f1, f2⟩
theorem acts_field {n : Nat} {u : Value} {y : DataW H × List MemPlace} (h : DataW.trod enc Try.prog w 0 (fun _ => true) true n 22 [u] = some y) : ∃ (a : Option Addr) (len cap : Nat) (us : List Ac), u = .slice a len cap ∧ len ≤ cap ∧ Acts w w.heap.size a len us :=
  recs_field Try.underlying22 (k := 3) (by kernel_rfl) (by decide) (fun _ => rfl) act_cells h
end

/-- What an act comes to. -/
noncomputable def actOut (N : Nat) (L : List (List Int)) (u : Ac) : List (List Int) × Int := if u.drop = true then dropOut N L u.node else pushOut N L u.list u.node

section
variable {w : World} {P : Nat → Prop} {N M C : Nat} {L : List (List Int)}
theorem refDrop_any (hw : Wf N M C L) (hM : 1 ≤ M) (a : Option Addr) (c : Nat) (n : Int) (h : Lsp w P a M L) :
    Calls Try.prog 24 #[.agg #[.slice a M c, .int .i64 (N : Int)], .int .i64 n] w (ActEnds P M N (dropOut N L n) w) := by
  unfold dropOut
  cases hq : inB N n with
  | false => exact refDrop_arg a c n h hq
  | true =>
    obtain ⟨n, rfl, hn⟩ := inB_nat hq
    rw [if_pos rfl]
    rcases spot L n with ⟨i, j, hat⟩ | hno
    · rw [hw.plc hat]
      exact refDrop_ok hw hM a c n h hn hat
    · rw [plc_no hno]
      exact refDrop_none hw hM a c n h hn hno
theorem refPush_any (hw : Wf N M C L) (hM : 1 ≤ M) (hC : C ≤ 1000) (hN : N ≤ 4096) (a : Option Addr) (c : Nat) (i n : Int) (h : Lsp w P a M L) :
    Calls Try.prog 25 #[.agg #[.slice a M c, .int .i64 (N : Int)], .int .i64 i, .int .i64 n] w (ActEnds P M N (pushOut N L i n) w) := by
  unfold pushOut
  rw [hw.len]
  by_cases hq : inB M i = true ∧ inB N n = true
  · rw [if_pos hq]
    obtain ⟨i, rfl, hi⟩ := inB_nat hq.1
    obtain ⟨n, rfl, hn⟩ := inB_nat hq.2
    rcases spot L n with ⟨i', j, hat⟩ | hno
    · rw [if_neg (by rw [hw.of hat]; omega)]
      exact refPush_there hw hM a c i n h hi hn hat
    · rw [if_pos (of_no hno), Int.toNat_natCast]
      exact refPush_ok hw hM hC hN a c i n h hi hn hno
  · rw [if_neg hq]
    exact refPush_arg a c i n h hq

theorem refDo_any (hw : Wf N M C L) (hM : 1 ≤ M) (hC : C ≤ 1000) (hN : N ≤ 4096) (a : Option Addr) (c : Nat) (u : Ac) (h : Lsp w P a M L) :
    Calls Try.prog 12 #[.agg #[.slice a M c, .int .i64 (N : Int)], .agg #[.bool u.drop, .int .i64 u.list, .int .i64 u.node]] w (ActEnds P M N (actOut N L u) w) := by
  obtain ⟨W, hW⟩ : ∃ W, W = ((w.alloc (.cells #[.slice a M c, .int .i64 (N : Int)] 30)).alloc (.cells #[.bool u.drop, .int .i64 u.list, .int .i64 u.node] 35)).alloc (.cells #[.slice none 0 0, .int .i64 0] 30) := ⟨_, rfl⟩
  have hB : Below w.heap.size w W := by rw [hW]; exact (below2 w _ _).alloc (by simp; omega) _
  have hS : W.heap.size = w.heap.size + 3 := by rw [hW]; simp
  have hX : Lv W w.heap.size a M c N := by rw [hW]; exact ((Lv.new w a M c N).below (below1 _ _)).below (below1 _ _)
  have hZ : Lv W (w.heap.size + 2) none 0 0 0 := by
    rw [hW]
    have := Lv.new ((w.alloc (.cells #[.slice a M c, .int .i64 (N : Int)] 30)).alloc (.cells #[.bool u.drop, .int .i64 u.list, .int .i64 u.node] 35)) none 0 0 0
    simpa using this
  have k0 : W.cell? ⟨w.heap.size + 1, 0, none⟩ = some (.bool u.drop) := by rw [hW]; go_simp
  have k1 : W.cell? ⟨w.heap.size + 1, 1, none⟩ = some (.int .i64 u.list) := by rw [hW]; go_simp
  have k2 : W.cell? ⟨w.heap.size + 1, 2, none⟩ = some (.int .i64 u.node) := by rw [hW]; go_simp
  have HW := Lib.hid hW
  have HB := Lib.hid hB
  have HS := Lib.hid hS
  have HX := Lib.hid hX
  have HZ := Lib.hid hZ
  have HL := Lib.hid (h.on hB)
  have HLT := Lib.hid h.lt
  have HK := Lib.hid (show _ ∧ _ ∧ _ from ⟨k0, k1, k2⟩)
  clear hB hS hX hZ h k0 k1 k2 hW
  unfold actOut
  have fin : ∀ (r : List (List Int) × Int) (w2 : World) (a' : Option Addr) (cap' : Nat) (Q : Nat → Prop), Lsp w2 Q a' M r.1 → Below W.heap.size W w2 → (∀ k, Q k → P k ∨ W.heap.size ≤ k) →
      ActEnds P M N r w (.returned (.tuple #[.agg #[.slice a' M cap', .int .i64 (N : Int)], .int .i64 r.2])) ((w2.setCell ⟨w.heap.size + 2, 0, none⟩ (.slice a' M cap')).setCell ⟨w.heap.size + 2, 1, none⟩ (.int .i64 (N : Int))) := by
    intro r w2 a' cap' Q hL hb hQ
    have hb6 := but_two w2 (w.heap.size + 2) (.slice a' M cap') (.int .i64 (N : Int))
    have hs := HS.out
    have B5 := belowT HB.out hb
    refine ⟨_, _, Q, rfl, hL.but hb6 (fun k hk e => ?_), B5.trans (hb6.one B5.size (by omega)), fun k hk => ?_⟩
    · rcases hQ k hk with q | q
      · have := HLT.out k q; omega
      · omega
    · rcases hQ k hk with q | q
      · exact Or.inl q
      · exact Or.inr (by omega)
  have FIN := Lib.hid fin
  clear fin
  cases hd : u.drop with
  | true =>
    rw [if_pos rfl]
    have HC := Lib.hid (refDrop_any hw hM a c u.node HL.out)
    generalize dropOut N L u.node = r at HC ⊢
    rw [hd] at HW HK
    go_enter Try.func12, Try.ntmps12
    go_wp2_with fail
    rw [← HW.out]
    refine HC.out.mono ?_
    rintro e w2 ⟨a', cap', Q, rfl, l2, b2, hQ⟩
    obtain ⟨q0, q1, q2, q3⟩ := HZ.out.below b2
    have HF := Lib.hid (FIN.out r w2 a' cap' Q l2 b2 hQ)
    clear l2 b2 hQ
    go_wp2
    refine bodyPost_ret (v := .tuple #[.agg #[.slice a' M cap', .int .i64 (N : Int)], .int .i64 r.2]) (by simp [results, Try.results12, go_sem, q0, q1]) rfl ?_
    exact HF.out
  | false =>
    rw [if_neg (by simp)]
    have HC := Lib.hid (refPush_any hw hM hC hN a c u.list u.node HL.out)
    generalize pushOut N L u.list u.node = r at HC ⊢
    rw [hd] at HW HK
    go_enter Try.func12, Try.ntmps12
    go_wp2_with fail
    rw [← HW.out]
    refine HC.out.mono ?_
    rintro e w2 ⟨a', cap', Q, rfl, l2, b2, hQ⟩
    obtain ⟨q0, q1, q2, q3⟩ := HZ.out.below b2
    have HF := Lib.hid (FIN.out r w2 a' cap' Q l2 b2 hQ)
    clear l2 b2 hQ
    go_wp2
    refine bodyPost_ret (v := .tuple #[.agg #[.slice a' M cap', .int .i64 (N : Int)], .int .i64 r.2]) (by simp [results, Try.results12, go_sem, q0, q1]) rfl ?_
    exact HF.out

/-- The law's own 'do'. -/
theorem do07_any {p a b : Nat} (h : Rg w p a b N M C L) (hC : C ≤ 1000) (u : Ac) :
    Calls Try.prog 11 #[.pointer (some ⟨p, 0, none⟩), .agg #[.bool u.drop, .int .i64 u.list, .int .i64 u.node]] w fun e w' => e = .returned (.int .i64 (actOut N L u).2) ∧ Rg w' p a b N M (C + 1) (actOut N L u).1 ∧ But (Own a b) w w' := by
  have hB := below1 w (.cells #[.bool u.drop, .int .i64 u.list, .int .i64 u.node] 35)
  have HR := Lib.hid (h.below hB)
  have HB := Lib.hid hB
  clear h hB
  unfold actOut
  cases hd : u.drop with
  | true =>
    rw [if_pos rfl]
    rw [hd] at HR HB
    have HC := Lib.hid (rgDrop HR.out hC u.node)
    generalize dropOut N L u.node = r at HC ⊢
    go_enter Try.func11, Try.ntmps11
    go_wp2_with fail
    refine HC.out.mono ?_
    rintro e w2 ⟨rfl, r2, b2⟩
    have R2 := Lib.hid r2
    have B2 := Lib.hid ((Below.but HB.out (Own a b)).trans b2)
    clear r2 b2
    go_wp2
    go_ret
    exact ⟨rfl, R2.out, B2.out⟩
  | false =>
    rw [if_neg (by simp)]
    rw [hd] at HR HB
    have HC := Lib.hid (rgPush HR.out hC u.list u.node)
    generalize pushOut N L u.list u.node = r at HC ⊢
    go_enter Try.func11, Try.ntmps11
    go_wp2_with fail
    refine HC.out.mono ?_
    rintro e w2 ⟨rfl, r2, b2⟩
    have R2 := Lib.hid r2
    have B2 := Lib.hid ((Below.but HB.out (Own a b)).trans b2)
    clear r2 b2
    go_wp2
    go_ret
    exact ⟨rfl, R2.out, B2.out⟩
end
end Go.Proofs.Ytakecddjpdiojaa
