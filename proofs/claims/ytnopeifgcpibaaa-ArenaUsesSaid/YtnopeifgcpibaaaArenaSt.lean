/-
  How far the uses of ArenaUses have come: the arena and the document's arena hold the same bytes, and as many steps were charged. No statement about a Go function.
-/
import Derived.Test.YtnopeifgcpibaaaArenaRefDo
namespace Go.Proofs.Ytnopeifgcpibaaa
open Go.ChangeShapes Go.WideShapes Go.ChangeAt Go.RowKit

theorem Bytes.butAt {S : Nat → Prop} {w w' : World} {B b o n : Nat} {xs : List Int} (h : Bytes w B (some ⟨b, o, none⟩) n xs) (hb : But S w w') (hB : B ≤ w.heap.size) (hn : ¬ S b) : Bytes w' B (some ⟨b, o, none⟩) n xs :=
  ⟨h.1, h.2.1, h.2.2.1, fun h0 => by
    obtain ⟨b', o', e, hl, hc⟩ := h.2.2.2 h0
    injection e with e
    injection e with e1 e2
    subst e1 e2
    exact ⟨b, o, rfl, hl, fun k s hs => (hb.cell (p := ⟨b, o + k, none⟩) (by show b < _; omega) hn).trans (hc k s hs)⟩⟩
theorem Bytes.block_lt {w : World} {B b o n : Nat} {xs : List Int} (h : Bytes w B (some ⟨b, o, none⟩) n xs) (hn : 0 < n) : b < B := by
  obtain ⟨b', o', e, hl, _⟩ := h.head hn
  injection e with e
  injection e with e1 e2
  omega
/-- Some bytes of which it is known only where they don't lie. -/
theorem Bytes.far {S : Nat → Prop} {w w' : World} {B n : Nat} {a : Option Addr} {xs : List Int} (h : Bytes w B a n xs) (hb : But S w w') (hB : B ≤ w.heap.size) (hn : 0 < n → ∃ f o, a = some ⟨f, o, none⟩ ∧ ¬ S f) : Bytes w' B a n xs := by
  by_cases h0 : 0 < n
  · obtain ⟨f, o, rfl, hf⟩ := hn h0
    exact h.butAt hb hB hf
  · exact ⟨h.1, h.2.1, h.2.2.1, fun q => absurd q h0⟩

/-- After k uses. -/
structure St (w0 : World) (p q g X N k : Nat) (xs : List Int) (s : Int) (b o c : Nat) (w : World) : Prop where
  below : Below w0.heap.size w0 w
  ar : Ar w p q (some g) xs s 0
  len : xs.length = N
  rb : RB w X (some ⟨b, o, none⟩) N c s
  cap : N ≤ c
  bytes : Bytes w w.heap.size (some ⟨b, o, none⟩) N xs
  bq : b ≠ q
  bg : b ≠ g
  bx : b ≠ X
  s0 : 0 ≤ s
  s1 : s ≤ k * 256
theorem more_plain {t n : Int} (t0 : 0 ≤ t) (t1 : t ≤ 1000000) (n0 : 0 ≤ n) (n1 : n ≤ 1000000) : more t n = t + n := by
  unfold more
  split
  · omega
  · split <;> omega
theorem Below.on_cell {w w' : World} (hb : Below w.heap.size w w') {p : Addr} {x : Value} (h : w.cell? p = some x) : w'.cell? p = some x := (hb.cell (lt_of_cell h)).trans h
/-- Eight cells, through a call. -/
theorem keep8c {w w' : World} (hb : Below w.heap.size w w') {p0 p1 p2 p3 p4 p5 p6 p7 : Addr} {x0 x1 x2 x3 x4 x5 x6 x7 : Value}
    (h : w.cell? p0 = some x0 ∧ w.cell? p1 = some x1 ∧ w.cell? p2 = some x2 ∧ w.cell? p3 = some x3 ∧ w.cell? p4 = some x4 ∧ w.cell? p5 = some x5 ∧ w.cell? p6 = some x6 ∧ w.cell? p7 = some x7) :
    w'.cell? p0 = some x0 ∧ w'.cell? p1 = some x1 ∧ w'.cell? p2 = some x2 ∧ w'.cell? p3 = some x3 ∧ w'.cell? p4 = some x4 ∧ w'.cell? p5 = some x5 ∧ w'.cell? p6 = some x6 ∧ w'.cell? p7 = some x7 :=
  ⟨Below.on_cell hb h.1, Below.on_cell hb h.2.1, Below.on_cell hb h.2.2.1, Below.on_cell hb h.2.2.2.1, Below.on_cell hb h.2.2.2.2.1, Below.on_cell hb h.2.2.2.2.2.1, Below.on_cell hb h.2.2.2.2.2.2.1, Below.on_cell hb h.2.2.2.2.2.2.2⟩
/-- Eight cells, behind a store into a block that came later. -/
theorem keep8y {w w5 w' : World} (hb : But (· = w.heap.size) w5 w') {p0 p1 p2 p3 p4 p5 p6 p7 : Addr} {x0 x1 x2 x3 x4 x5 x6 x7 : Value}
    (h : w.cell? p0 = some x0 ∧ w.cell? p1 = some x1 ∧ w.cell? p2 = some x2 ∧ w.cell? p3 = some x3 ∧ w.cell? p4 = some x4 ∧ w.cell? p5 = some x5 ∧ w.cell? p6 = some x6 ∧ w.cell? p7 = some x7)
    (k : w5.cell? p0 = some x0 ∧ w5.cell? p1 = some x1 ∧ w5.cell? p2 = some x2 ∧ w5.cell? p3 = some x3 ∧ w5.cell? p4 = some x4 ∧ w5.cell? p5 = some x5 ∧ w5.cell? p6 = some x6 ∧ w5.cell? p7 = some x7) :
    w'.cell? p0 = some x0 ∧ w'.cell? p1 = some x1 ∧ w'.cell? p2 = some x2 ∧ w'.cell? p3 = some x3 ∧ w'.cell? p4 = some x4 ∧ w'.cell? p5 = some x5 ∧ w'.cell? p6 = some x6 ∧ w'.cell? p7 = some x7 := by
  have one : ∀ {p : Addr} {x : Value}, w.cell? p = some x → w5.cell? p = some x → w'.cell? p = some x := fun {p x} a c => (hb.cell (lt_of_cell c) (fun e => by have := lt_of_cell a; omega)).trans c
  exact ⟨one h.1 k.1, one h.2.1 k.2.1, one h.2.2.1 k.2.2.1, one h.2.2.2.1 k.2.2.2.1, one h.2.2.2.2.1 k.2.2.2.2.1, one h.2.2.2.2.2.1 k.2.2.2.2.2.1, one h.2.2.2.2.2.2.1 k.2.2.2.2.2.2.1, one h.2.2.2.2.2.2.2 k.2.2.2.2.2.2.2⟩
/-- A variable that is laid anew. -/
theorem RB.set {w : World} {q n c : Nat} {a : Option Addr} {s : Int} (h : RB w q a n c s) (a' : Option Addr) (n' c' : Nat) (s' : Int) : RB ((w.setCell ⟨q, 0, none⟩ (.slice a' n' c')).setCell ⟨q, 1, none⟩ (.int .i64 s')) q a' n' c' s' :=
  ⟨(World.cell?_setCell_other _ ⟨q, 1, none⟩ ⟨q, 0, none⟩ _ (by simp)).trans (World.cell?_setCell_same w ⟨q, 0, none⟩ _ h.c0),
    World.cell?_setCell_same _ ⟨q, 1, none⟩ _ ((World.cell?_setCell_other w ⟨q, 0, none⟩ ⟨q, 1, none⟩ _ (by simp)).trans h.c1), by simpa using h.f0, by simpa using h.f1⟩

/-- Behind the document's 'Do': what it told and laid, and the variable y. -/
structure Nx (w4 : World) (b N : Nat) (s : Int) (out : Out) (b' o' c' : Nat) (ta : Option Addr) (tn Y : Nat) (w6 : World) : Prop where
  below : Below w4.heap.size w4 w6
  rb : RB w6 Y (some ⟨b', o', none⟩) N c' (s + out.steps)
  bytes : Bytes w6 w6.heap.size (some ⟨b', o', none⟩) N out.xs
  told : Bytes w6 w6.heap.size ta tn out.told
  cap : N ≤ c'
  from_ : b' = b ∨ w4.heap.size ≤ b'
  tat : 0 < tn → ∃ o1, ta = some ⟨b', o1, none⟩
  later : w4.heap.size ≤ Y
section
variable {w4 w5 w6 : World} {b N : Nat} {s : Int} {out : Out} {b' o' c' : Nat} {ta : Option Addr} {tn Y : Nat}
/-- y was made behind the call. -/
theorem Nx.behind (b5 : Below w4.drew.heap.size w4.drew w5) (y5 : Bytes w5 w5.heap.size (some ⟨b', o', none⟩) N out.xs) (hc : N ≤ c') (t5 : Bytes w5 w5.heap.size ta tn out.told) (e5 : b' = b ∨ w4.drew.heap.size ≤ b') (f5 : 0 < tn → ∃ o1, ta = some ⟨b', o1, none⟩) :
    Nx w4 b N s out b' o' c' ta tn w5.heap.size (w5.alloc (.cells #[.slice (some ⟨b', o', none⟩) N c', .int .i64 (s + out.steps)] 33)) :=
  have b4 : Below w4.heap.size w4 w5 := belowT (belowD (Below.refl _ _)) b5
  ⟨belowT b4 (below1 w5 _), RB.new w5 _ _ _ _, y5.on (below1 w5 _), t5.on (below1 w5 _), hc, e5, f5, b4.size⟩
/-- y was made ahead of the call. -/
theorem Nx.ahead (b5 : Below (w4.drew.alloc (.cells #[.slice none 0 0, .int .i64 0] 33)).heap.size (w4.drew.alloc (.cells #[.slice none 0 0, .int .i64 0] 33)) w5)
    (y5 : Bytes w5 w5.heap.size (some ⟨b', o', none⟩) N out.xs) (hc : N ≤ c') (t5 : Bytes w5 w5.heap.size ta tn out.told) (e5 : b' = b ∨ (w4.drew.alloc (.cells #[.slice none 0 0, .int .i64 0] 33)).heap.size ≤ b') (f5 : 0 < tn → ∃ o1, ta = some ⟨b', o1, none⟩) (hb : b < w4.heap.size) :
    Nx w4 b N s out b' o' c' ta tn w4.heap.size ((w5.setCell ⟨w4.heap.size, 0, none⟩ (.slice (some ⟨b', o', none⟩) N c')).setCell ⟨w4.heap.size, 1, none⟩ (.int .i64 (s + out.steps))) := by
  have b4 : Below w4.heap.size w4 w5 := belowT ((belowD (Below.refl _ _)).alloc (Nat.le_refl _) _) b5
  have hy : RB w5 w4.heap.size none 0 0 0 := (RB.new w4.drew none 0 0 0).below b5
  have hs := but_two w5 w4.heap.size (.slice (some ⟨b', o', none⟩) N c') (.int .i64 (s + out.steps))
  have hne : ¬ b' = w4.heap.size := by
    rcases e5 with e | e
    · omega
    · have : (w4.drew.alloc (.cells #[.slice none 0 0, .int .i64 0] 33)).heap.size = w4.heap.size + 1 := by simp
      omega
  refine ⟨b4.trans (hs.one b4.size (Nat.le_refl _)), hy.set _ _ _ _, (y5.butAt hs (Nat.le_refl _) hne).more hs.size, (t5.far hs (Nat.le_refl _) (fun h => ?_)).more hs.size, hc, ?_, f5, Nat.le_refl _⟩
  · obtain ⟨o1, e⟩ := f5 h
    exact ⟨b', o1, e, hne⟩
  · rcases e5 with e | e
    · exact Or.inl e
    · right
      have : (w4.drew.alloc (.cells #[.slice none 0 0, .int .i64 0] 33)).heap.size = w4.heap.size + 1 := by simp
      omega

variable {w0 wr : World} {p q g X k : Nat} {xs : List Int} {o c : Nat}
/-- Behind 'x = y': one use more. -/
theorem St.next (hs : St w0 p q g X N k xs s b o c wr) (F : X ≠ p ∧ X ≠ q ∧ X ≠ g) (hX : w0.heap.size ≤ X) (hq : w0.heap.size ≤ q) (hg : w0.heap.size ≤ g) (B4 : But (Mine q (some g)) wr w4)
    (AR4 : Ar w4 p q (some g) out.xs (more s out.steps) 0) (hl : out.xs.length = N) (h0 : 0 ≤ out.steps) (h1 : out.steps ≤ 256) (nx : Nx w4 b N s out b' o' c' ta tn Y w6) (hk : k ≤ 20) :
    St w0 p q g X N (k + 1) out.xs (s + out.steps) b' o' c' ((w6.setCell ⟨X, 0, none⟩ (.slice (some ⟨b', o', none⟩) N c')).setCell ⟨X, 1, none⟩ (.int .i64 (s + out.steps))) := by
  have hb := but_two w6 X (.slice (some ⟨b', o', none⟩) N c') (.int .i64 (s + out.steps))
  have s0 := hs.s0
  have s1 := hs.s1
  have xl : X < wr.heap.size := lt_of_cell (p := ⟨X, 0, none⟩) hs.rb.c0
  have x4 := B4.size
  have C4 : Below w0.heap.size wr w4 := Ar.mine B4 hs.below.size hq (fun _ e => by cases e; exact hg)
  have C6 : Below w0.heap.size w0 w6 := (hs.below.trans C4).trans (nx.below.mono (Nat.le_trans hs.below.size x4))
  have RX : RB w6 X (some ⟨b, o, none⟩) N c s := (hs.rb.but B4 (fun e => by rcases e with e | e; exact F.2.1 e; injection e with e; exact F.2.2 e.symm)).below nx.below
  rw [more_plain s0 (by omega) h0 (by omega)] at AR4
  have q1 := AR4.row.size
  have q2 := (AR4.mo g rfl).size
  have ne : b' ≠ q ∧ b' ≠ g ∧ b' ≠ X := by
    rcases nx.from_ with e | e
    · rw [e]; exact ⟨hs.bq, hs.bg, hs.bx⟩
    · refine ⟨?_, ?_, ?_⟩ <;> omega
  exact ⟨C6.trans (hb.one C6.size hX), (AR4.below nx.below).but hb (fun e => F.1 e.symm) (fun e => F.2.1 e.symm) (fun i e r => by cases e; exact F.2.2 r.symm), hl, RX.set _ _ _ _, nx.cap, (nx.bytes.butAt hb (Nat.le_refl _) ne.2.2).more hb.size, ne.1, ne.2.1, ne.2.2, by omega, by omega⟩
/-- What the document's 'Do' told, behind 'x = y'. -/
theorem Nx.keep (nx : Nx w4 b N s out b' o' c' ta tn Y w6) (hbX : b ≠ X) (hX : X < w4.heap.size) (u v : Value) : Bytes ((w6.setCell ⟨X, 0, none⟩ u).setCell ⟨X, 1, none⟩ v) w6.heap.size ta tn out.told :=
  nx.told.far (but_two w6 X u v) (Nat.le_refl _) (fun h => by
    obtain ⟨o1, e⟩ := nx.tat h
    refine ⟨b', o1, e, ?_⟩
    rcases nx.from_ with r | r
    · rw [r]; exact hbX
    · omega)
theorem St.drewN {w : World} (h : St w0 p q g X N k xs s b o c w) (d : Nat) : St w0 p q g X N k xs s b o c (w.drewN d) :=
  ⟨belowN h.below d, h.ar.drewN d, h.len, h.rb.but ((But.refl (fun _ => False) w).drewN d) id, h.cap, h.bytes, h.bq, h.bg, h.bx, h.s0, h.s1⟩
end
end Go.Proofs.Ytnopeifgcpibaaa
