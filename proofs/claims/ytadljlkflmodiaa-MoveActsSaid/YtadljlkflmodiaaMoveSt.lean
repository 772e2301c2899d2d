/-
  How far the acts of MoveActs have come: the move and the document's move hold the same bytes, as many are gone, and as many steps were charged. No statement about a Go function.
-/
import Derived.Test.YtadljlkflmodiaaMoveActDo
import Derived.Test.YtadljlkflmodiaaMoveRefDo
namespace Go.Proofs.Ytadljlkflmodiaa
open Go.ChangeShapes Go.WideShapes Go.ChangeAt Go.RowKit

theorem quietQ {P : Program} {f : FuncId} {args : Array Value} {w : World} {n : Nat} {v : Value}
    (h : Calls P f args (w.drewN n) fun e w' => e = .returned v ∧ ∃ m, w' = (w.drewN n).drewN m) : Calls P f args (w.drewN n) fun e w'' => e = .returned v ∧ ∃ m, w'' = w.drewN m :=
  h.mono fun _ _ ⟨he, m, hm⟩ => ⟨he, n + m, by rw [hm]; simp [World.drewN, Nat.add_assoc]⟩
/-- All six cells of a variable are stored. -/
theorem set_six {w : World} {X : Nat} {v0 v1 v2 v3 v4 v5 : Value} (h : Cs w X [v0, v1, v2, v3, v4, v5]) (u0 u1 u2 u3 u4 u5 : Value) :
    Cs ((((((w.setCell ⟨X, 0, none⟩ u0).setCell ⟨X, 1, none⟩ u1).setCell ⟨X, 2, none⟩ u2).setCell ⟨X, 3, none⟩ u3).setCell ⟨X, 4, none⟩ u4).setCell ⟨X, 5, none⟩ u5) X [u0, u1, u2, u3, u4, u5] :=
  (((((h.set 0 u0).set 1 u1).set 2 u2).set 3 u3).set 4 u4).set 5 u5
theorem but_six (w : World) (X : Nat) (u0 u1 u2 u3 u4 u5 : Value) :
    But (· = X) w ((((((w.setCell ⟨X, 0, none⟩ u0).setCell ⟨X, 1, none⟩ u1).setCell ⟨X, 2, none⟩ u2).setCell ⟨X, 3, none⟩ u3).setCell ⟨X, 4, none⟩ u4).setCell ⟨X, 5, none⟩ u5) :=
  ((((((But.refl (· = X) w).setCell (p := ⟨X, 0, none⟩) (fun _ => rfl) u0).setCell (p := ⟨X, 1, none⟩) (fun _ => rfl) u1).setCell (p := ⟨X, 2, none⟩) (fun _ => rfl) u2).setCell (p := ⟨X, 3, none⟩) (fun _ => rfl) u3).setCell (p := ⟨X, 4, none⟩) (fun _ => rfl) u4).setCell (p := ⟨X, 5, none⟩) (fun _ => rfl) u5

/-- Where the move, its arena, the meter and the document's move lie, apart. -/
structure Mf (w0 : World) (q p q0 γ X : Nat) : Prop where
  q_ : w0.heap.size ≤ q
  q0_ : w0.heap.size ≤ q0
  g_ : w0.heap.size ≤ γ
  x_ : w0.heap.size ≤ X
  xq : X ≠ q
  xp : X ≠ p
  xq0 : X ≠ q0
  xg : X ≠ γ
/-- After k acts. -/
structure Ms (w0 : World) (q p q0 γ X : Nat) (f t s k : Nat) (xs : List Int) (st : Int) (g b o c : Nat) (w : World) : Prop where
  below : Below w0.heap.size w0 w
  mw : Mw w q p q0 (some γ) xs st 0 f t s g
  cs : Cs w X [.slice (some ⟨b, o, none⟩) 128 c, .int .i64 st, .int .i64 (f : Int), .int .i64 (t : Int), .int .i64 (s : Int), .int .i64 (g : Int)]
  len : xs.length = 128
  cap : 128 ≤ c
  bytes : Bytes w w.heap.size (some ⟨b, o, none⟩) 128 xs
  bq : b ≠ q
  bq0 : b ≠ q0
  bg : b ≠ γ
  bx : b ≠ X
  s0 : 0 ≤ st
  s1 : st ≤ 128 + k * 256
/-- Behind the document's 'Do': the variable y. -/
structure Nx (w4 : World) (b : Nat) (st : Int) (f t s : Nat) (r : MOut) (b' o' c' Y : Nat) (w6 : World) : Prop where
  below : Below w4.heap.size w4 w6
  cs : Cs w6 Y [.slice (some ⟨b', o', none⟩) 128 c', .int .i64 (st + ((r.s1 : Int) + (r.s2 : Int))), .int .i64 (f : Int), .int .i64 (t : Int), .int .i64 (s : Int), .int .i64 (r.gone : Int)]
  bytes : Bytes w6 w6.heap.size (some ⟨b', o', none⟩) 128 r.xs
  cap : 128 ≤ c'
  from_ : b' = b ∨ w4.heap.size ≤ b'
  later : w4.heap.size ≤ Y
section
variable {w0 w4 w5 w6 wr : World} {q p q0 γ X Y : Nat} {f t s k : Nat} {xs : List Int} {st : Int} {g b o c b' o' c' : Nat} {r : MOut}
theorem Ms.drewN {w : World} (h : Ms w0 q p q0 γ X f t s k xs st g b o c w) (d : Nat) : Ms w0 q p q0 γ X f t s k xs st g b o c (w.drewN d) :=
  ⟨belowN h.below d, h.mw.drewN d, h.cs.drewN d, h.len, h.cap, h.bytes, h.bq, h.bq0, h.bg, h.bx, h.s0, h.s1⟩
/-- y was made behind the call. -/
theorem Nx.behind (h : MF w4 w5 b 128 b' o' c' r.xs) : Nx w4 b st f t s r b' o' c' w5.heap.size (w5.alloc (.cells #[.slice (some ⟨b', o', none⟩) 128 c', .int .i64 (st + ((r.s1 : Int) + (r.s2 : Int))), .int .i64 (f : Int), .int .i64 (t : Int), .int .i64 (s : Int), .int .i64 (r.gone : Int)] 43)) :=
  ⟨belowT h.below (below1 w5 _), Cs.new w5 _ _ rfl, h.bytes.on (below1 w5 _), h.cap, h.from_, h.below.size⟩
/-- y was made ahead of the call. -/
theorem Nx.ahead {v0 v1 v2 v3 v4 v5 : Value} (h : MF w4 w5 b 128 b' o' c' r.xs) (hy : Cs w5 w4.heap.size [v0, v1, v2, v3, v4, v5]) (hne : ¬ b' = w4.heap.size) :
    Nx w4 b st f t s r b' o' c' w4.heap.size ((((((w5.setCell ⟨w4.heap.size, 0, none⟩ (.slice (some ⟨b', o', none⟩) 128 c')).setCell ⟨w4.heap.size, 1, none⟩ (.int .i64 (st + ((r.s1 : Int) + (r.s2 : Int))))).setCell ⟨w4.heap.size, 2, none⟩ (.int .i64 (f : Int))).setCell ⟨w4.heap.size, 3, none⟩ (.int .i64 (t : Int))).setCell ⟨w4.heap.size, 4, none⟩ (.int .i64 (s : Int))).setCell ⟨w4.heap.size, 5, none⟩ (.int .i64 (r.gone : Int))) := by
  have h6 := but_six w5 w4.heap.size (.slice (some ⟨b', o', none⟩) 128 c') (.int .i64 (st + ((r.s1 : Int) + (r.s2 : Int)))) (.int .i64 (f : Int)) (.int .i64 (t : Int)) (.int .i64 (s : Int)) (.int .i64 (r.gone : Int))
  exact ⟨h.below.trans (h6.one h.below.size (Nat.le_refl _)), set_six hy _ _ _ _ _ _, (h.bytes.butAt h6 (Nat.le_refl _) hne).more h6.size, h.cap, h.from_, Nat.le_refl _⟩
/-- Ten cells that stay. -/
theorem six_below {B : Nat} {w u : World} (hb : Below B w u) {X : Nat} (hX : B ≤ X) (u0 u1 u2 u3 u4 u5 : Value) : Below B w ((((((u.setCell ⟨X, 0, none⟩ u0).setCell ⟨X, 1, none⟩ u1).setCell ⟨X, 2, none⟩ u2).setCell ⟨X, 3, none⟩ u3).setCell ⟨X, 4, none⟩ u4).setCell ⟨X, 5, none⟩ u5) :=
  (((((hb.setCell (p := ⟨X, 0, none⟩) hX u0).setCell (p := ⟨X, 1, none⟩) hX u1).setCell (p := ⟨X, 2, none⟩) hX u2).setCell (p := ⟨X, 3, none⟩) hX u3).setCell (p := ⟨X, 4, none⟩) hX u4).setCell (p := ⟨X, 5, none⟩) hX u5
/-- Behind 'x = y': one act more. -/
theorem Ms.next (hs : Ms w0 q p q0 γ X f t s k xs st g b o c wr) (F : Mf w0 q p q0 γ X) (B4 : But (Ours q q0 (some γ)) wr w4) (M4 : Mw w4 q p q0 (some γ) r.xs (more (more st r.s1) r.s2) 0 f t s r.gone) (hl : r.xs.length = 128) (h1 : r.s1 ≤ 128) (h2 : r.s2 ≤ 128)
    (nx : Nx w4 b st f t s r b' o' c' Y w6) (hk : k ≤ 20) :
    Ms w0 q p q0 γ X f t s (k + 1) r.xs (st + ((r.s1 : Int) + (r.s2 : Int))) r.gone b' o' c' ((((((w6.setCell ⟨X, 0, none⟩ (.slice (some ⟨b', o', none⟩) 128 c')).setCell ⟨X, 1, none⟩ (.int .i64 (st + ((r.s1 : Int) + (r.s2 : Int))))).setCell ⟨X, 2, none⟩ (.int .i64 (f : Int))).setCell ⟨X, 3, none⟩ (.int .i64 (t : Int))).setCell ⟨X, 4, none⟩ (.int .i64 (s : Int))).setCell ⟨X, 5, none⟩ (.int .i64 (r.gone : Int))) := by
  have h6 := but_six w6 X (.slice (some ⟨b', o', none⟩) 128 c') (.int .i64 (st + ((r.s1 : Int) + (r.s2 : Int)))) (.int .i64 (f : Int)) (.int .i64 (t : Int)) (.int .i64 (s : Int)) (.int .i64 (r.gone : Int))
  have s0 := hs.s0
  have s1 := hs.s1
  have xl := hs.cs.size
  have x4 := B4.size
  have C4 : Below w0.heap.size wr w4 := Mw.mine B4 hs.below.size F.q_ F.q0_ (fun _ e => by cases e; exact F.g_)
  have C6 : Below w0.heap.size w0 w6 := (hs.below.trans C4).trans (nx.below.mono (Nat.le_trans hs.below.size x4))
  have XS : Cs w6 X [.slice (some ⟨b, o, none⟩) 128 c, .int .i64 st, .int .i64 (f : Int), .int .i64 (t : Int), .int .i64 (s : Int), .int .i64 (g : Int)] := (hs.cs.but B4 (fun e => by rcases e with e | e | e; exact F.xq e; exact F.xq0 e; injection e with e; exact F.xg e.symm)).below nx.below
  rw [more_small s0 (by omega) (by omega) (by omega), more_small (by omega) (by omega) (by omega) (by omega), show st + (r.s1 : Int) + (r.s2 : Int) = st + ((r.s1 : Int) + (r.s2 : Int)) by omega] at M4
  have q1 := M4.ar.row.size
  have q2 := (M4.ar.mo γ rfl).size
  have q3 := M4.mv.size
  have ne : b' ≠ q ∧ b' ≠ q0 ∧ b' ≠ γ ∧ b' ≠ X := by
    rcases nx.from_ with e | e
    · rw [e]; exact ⟨hs.bq, hs.bq0, hs.bg, hs.bx⟩
    · refine ⟨?_, ?_, ?_, ?_⟩ <;> omega
  exact ⟨C6.trans (h6.one C6.size F.x_), (M4.below nx.below).but h6 (fun e => F.xq e.symm) (fun e => F.xp e.symm) (fun e => F.xq0 e.symm) (fun i e r => by cases e; exact F.xg r.symm), set_six XS _ _ _ _ _ _, hl, nx.cap, (nx.bytes.butAt h6 (Nat.le_refl _) ne.2.2.2).more h6.size, ne.1, ne.2.1, ne.2.2.1, ne.2.2.2, by omega, by omega⟩
end
end Go.Proofs.Ytadljlkflmodiaa
