/-
  An act of page's laws (almeryref12.Act), as plain data, opened out of an argument; the law's own 'do', 'same', 'awake' and the document's 'Do'; how far the acts have come.
-/
import Derived.Test.YtglaohclbepmfaaPageTake
import Derived.Test.YtglaohclbepmfaaPageRefDo
import Derived.Test.YtglaohclbepmfaaRecs
import Derived.Test.YtglaohclbepmfaaWf
namespace Go.Proofs.Ytglaohclbepmfaa
open Go.ChangeShapes Go.WideShapes Go.ChangeAt Go.RowKit Go.Deep

structure Ac where
  kind : Int
  at_ : Int
  own : Int
instance : Inhabited Ac := ⟨⟨0, 0, 0⟩⟩
def Ac.cells (u : Ac) : List Value := [.int .u8 u.kind, .int .i64 u.at_, .int .i64 u.own]
def Ac.fit (u : Ac) : Prop := (0 ≤ u.kind ∧ u.kind ≤ 255) ∧ (-9223372036854775808 ≤ u.at_ ∧ u.at_ ≤ 9223372036854775807) ∧ -9223372036854775808 ≤ u.own ∧ u.own ≤ 9223372036854775807
def Ac.ok (u : Ac) (_ : World) (_ : Nat) : Prop := u.fit
def Acts (w : World) (B : Nat) (a : Option Addr) (n : Nat) (us : List Ac) : Prop := Recs Ac.cells Ac.ok 3 w B a n us
theorem Acts.below {w w' : World} {B n : Nat} {a : Option Addr} {us : List Ac} (h : Acts w B a n us) (hb : Below B w w') : Acts w' B a n us := Recs.below h (fun _ q => q) hb
section
variable {H : Type} {enc : TypeId × Value → H} {w : World}
theorem u8_in {n : Nat} {u : Value} {y : DataW H × List MemPlace} (h : DataW.trod enc Try.prog w 0 (fun _ => true) true n 5 [u] = some y) : ∃ a : Int, u = .int .u8 a ∧ 0 ≤ a ∧ a ≤ 255 := by
  obtain ⟨a, e, _, hw⟩ := DataW.trod_int Try.underlying5 h
  simp at e
  exact ⟨a, e, wfu8 hw⟩
theorem act_cells (cs : List Value) (fuel : Nat) (x : DataW H × List MemPlace) (h : DataW.trod enc Try.prog w 0 (fun _ => true) true fuel 34 cs = some x) : ∃ u : Ac, cs = u.cells ∧ u.ok w w.heap.size := by
  obtain ⟨hl, hf⟩ := fields_of Try.underlying34 (by kernel_rfl) (by kernel_rfl) h
  match cs, hl with
  | [v0, v1, v2], _ =>
    obtain ⟨u0, _, n0, e0, t0⟩ := hf 0 _ rfl
    obtain ⟨u1, _, n1, e1, t1⟩ := hf 1 _ rfl
    obtain ⟨u2, _, n2, e2, t2⟩ := hf 2 _ rfl
    simp at e0 e1 e2
    subst e0 e1 e2
    obtain ⟨a0, rfl, f0⟩ := u8_in t0
    obtain ⟨a1, rfl, f1⟩ := i64_field t1
    obtain ⟨a2, rfl, f2⟩ := i64_field t2
    exact ⟨⟨a0, a1, a2⟩, rfl, f0, f1, f2⟩
theorem acts_field {n : Nat} {u : Value} {y : DataW H × List MemPlace} (h : DataW.trod enc Try.prog w 0 (fun _ => true) true n 22 [u] = some y) : ∃ (a : Option Addr) (len cap : Nat) (us : List Ac), u = .slice a len cap ∧ len ≤ cap ∧ Acts w w.heap.size a len us :=
  recs_field Try.underlying22 (k := 3) (by kernel_rfl) (by decide) (fun _ => rfl) act_cells h
end

/-- What an act comes to. -/
def actX (X : List Int) (u : Ac) : List Int := if u.kind % 3 = 0 then takeX X u.own else if u.kind % 3 = 1 then giveX X u.at_ else ownX X u.at_ u.own
def actA (X : List Int) (u : Ac) : Int := if u.kind % 3 = 0 then takeA X u.own else 0
def actE (X : List Int) (u : Ac) : Int := if u.kind % 3 = 0 then takeE X u.own else if u.kind % 3 = 1 then giveE X u.at_ else ownE X u.at_ u.own
theorem act_len (X : List Int) (u : Ac) : (actX X u).length = X.length := by
  unfold actX
  split
  · exact take_len _
  · split
    · exact give_len _
    · exact own_len _ _

/-! ### 'do', and the document's 'Do' -/
section
variable {w : World} {p b m g n c : Nat} {X : List Int}
theorem do12_any (h : Pm w p b m X) (kind at_ own : Int) (hu : (Ac.mk kind at_ own).fit) :
    Calls Try.prog 11 #[.pointer (some ⟨p, 0, none⟩), .agg #[.int .u8 kind, .int .i64 at_, .int .i64 own]] w (PgEnds (.tuple #[.int .i64 (actA X ⟨kind, at_, own⟩), .int .i64 (actE X ⟨kind, at_, own⟩)]) p b m (actX X ⟨kind, at_, own⟩) w) := by
  obtain ⟨hk, ha, ho⟩ := hu
  simp only at hk ha ho
  have e1 : kind.tmod 3 = kind % 3 := Int.tmod_eq_emod_of_nonneg hk.1
  rcases (by omega : kind % 3 = 0 ∨ kind % 3 = 1 ∨ kind % 3 = 2) with q | q | q
  · have x1 : actX X ⟨kind, at_, own⟩ = takeX X own := by simp [actX, q]
    have x2 : actA X ⟨kind, at_, own⟩ = takeA X own := by simp [actA, q]
    have x3 : actE X ⟨kind, at_, own⟩ = takeE X own := by simp [actE, q]
    rw [x1, x2, x3]
    have H := Lib.hid (fun o => pageTake_any (h.below (below1 w o)) own ho.2)
    generalize takeX X own = X' at H ⊢
    generalize takeA X own = a at H ⊢
    generalize takeE X own = z at H ⊢
    rw [q] at e1
    clear h x1 x2 x3
    go_enter Try.func11, Try.ntmps11
    go_wp2_with fail
    refine (H.out _).mono ?_
    rintro e w' ⟨rfl, p1, b1⟩
    have HE : Hid (Pm w' p b m X' ∧ But (fun i => i = b ∨ i = m) w w') := Lib.hid ⟨p1, ((But.refl _ w).alloc _).trans b1⟩
    clear p1 b1 H
    go_wp2
    go_ret2
    exact ⟨rfl, HE.out⟩
  · have x1 : actX X ⟨kind, at_, own⟩ = giveX X at_ := by simp [actX, q]
    have x2 : actA X ⟨kind, at_, own⟩ = 0 := by simp [actA, q]
    have x3 : actE X ⟨kind, at_, own⟩ = giveE X at_ := by simp [actE, q]
    rw [x1, x2, x3]
    have H := Lib.hid (fun o => pageGive_any (h.below (below1 w o)) at_)
    generalize giveX X at_ = X' at H ⊢
    generalize giveE X at_ = z at H ⊢
    rw [q] at e1
    clear h x1 x2 x3
    go_enter Try.func11, Try.ntmps11
    go_wp2_with fail
    refine (H.out _).mono ?_
    rintro e w' ⟨rfl, p1, b1⟩
    have HE : Hid (Pm w' p b m X' ∧ But (fun i => i = b ∨ i = m) w w') := Lib.hid ⟨p1, ((But.refl _ w).alloc _).trans b1⟩
    clear p1 b1 H
    go_wp2
    go_ret2
    exact ⟨rfl, HE.out⟩
  · have x1 : actX X ⟨kind, at_, own⟩ = ownX X at_ own := by simp [actX, q]
    have x2 : actA X ⟨kind, at_, own⟩ = 0 := by simp [actA, q]
    have x3 : actE X ⟨kind, at_, own⟩ = ownE X at_ own := by simp [actE, q]
    rw [x1, x2, x3]
    have H := Lib.hid (fun o => pageOwn_any (h.below (below1 w o)) at_ own ho.2)
    generalize ownX X at_ own = X' at H ⊢
    generalize ownE X at_ own = z at H ⊢
    rw [q] at e1
    clear h x1 x2 x3
    go_enter Try.func11, Try.ntmps11
    go_wp2_with fail
    refine (H.out _).mono ?_
    rintro e w' ⟨rfl, p1, b1⟩
    have HE : Hid (Pm w' p b m X' ∧ But (fun i => i = b ∨ i = m) w w') := Lib.hid ⟨p1, ((But.refl _ w).alloc _).trans b1⟩
    clear p1 b1 H
    go_wp2
    go_ret2
    exact ⟨rfl, HE.out⟩
theorem do_ends {o : Obj} {g' : Nat} {w' : World} {X' : List Int} (i1 : Ints w' w'.heap.size (some ⟨g', 0, none⟩) n X') (l1 : g' = g ∨ (w.alloc o).heap.size ≤ g') (b1 : Below (w.alloc o).heap.size (w.alloc o) w') : Hid (Ints w' w'.heap.size (some ⟨g', 0, none⟩) n X' ∧ (g' = g ∨ w.heap.size ≤ g') ∧ Below w.heap.size w w') :=
  Lib.hid ⟨i1, l1.imp id (fun q => Nat.le_trans (below1 w _).size q), belowT (below1 w _) b1⟩
theorem refDo_any (h : Ints w w.heap.size (some ⟨g, 0, none⟩) n X) (hn : n ≤ 512) (kind at_ own : Int) (hu : (Ac.mk kind at_ own).fit) :
    Calls Try.prog 12 #[.slice (some ⟨g, 0, none⟩) n c, .agg #[.int .u8 kind, .int .i64 at_, .int .i64 own]] w (RefP3 n g (actX X ⟨kind, at_, own⟩) (actA X ⟨kind, at_, own⟩) (actE X ⟨kind, at_, own⟩) w) := by
  obtain ⟨hk, ha, ho⟩ := hu
  simp only at hk ha ho
  have e1 : kind.tmod 3 = kind % 3 := Int.tmod_eq_emod_of_nonneg hk.1
  rcases (by omega : kind % 3 = 0 ∨ kind % 3 = 1 ∨ kind % 3 = 2) with q | q | q
  · have x1 : actX X ⟨kind, at_, own⟩ = takeX X own := by simp [actX, q]
    have x2 : actA X ⟨kind, at_, own⟩ = takeA X own := by simp [actA, q]
    have x3 : actE X ⟨kind, at_, own⟩ = takeE X own := by simp [actE, q]
    rw [x1, x2, x3]
    have H := Lib.hid (fun o => refTake_any (c := c) (h.on (below1 w o)) hn own ho.2)
    generalize takeX X own = X' at H ⊢
    generalize takeA X own = a at H ⊢
    generalize takeE X own = z at H ⊢
    rw [q] at e1
    clear h x1 x2 x3
    go_enter Try.func12, Try.ntmps12
    go_wp2_with fail
    refine (H.out _).mono ?_
    rintro e w' ⟨g', c', rfl, i1, l1, b1⟩
    have HE := do_ends i1 l1 b1
    clear i1 l1 b1 H
    go_wp2
    go_ret3
    exact ⟨g', c', rfl, HE.out⟩
  · have x1 : actX X ⟨kind, at_, own⟩ = giveX X at_ := by simp [actX, q]
    have x2 : actA X ⟨kind, at_, own⟩ = 0 := by simp [actA, q]
    have x3 : actE X ⟨kind, at_, own⟩ = giveE X at_ := by simp [actE, q]
    rw [x1, x2, x3]
    have H := Lib.hid (fun o => refGive_any (c := c) (h.on (below1 w o)) hn at_)
    generalize giveX X at_ = X' at H ⊢
    generalize giveE X at_ = z at H ⊢
    rw [q] at e1
    clear h x1 x2 x3
    go_enter Try.func12, Try.ntmps12
    go_wp2_with fail
    refine (H.out _).mono ?_
    rintro e w' ⟨g', c', rfl, i1, l1, b1⟩
    have HE := do_ends i1 l1 b1
    clear i1 l1 b1 H
    go_wp2
    go_ret3
    exact ⟨g', c', rfl, HE.out⟩
  · have x1 : actX X ⟨kind, at_, own⟩ = ownX X at_ own := by simp [actX, q]
    have x2 : actA X ⟨kind, at_, own⟩ = 0 := by simp [actA, q]
    have x3 : actE X ⟨kind, at_, own⟩ = ownE X at_ own := by simp [actE, q]
    rw [x1, x2, x3]
    have H := Lib.hid (fun o => refOwn_any (c := c) (h.on (below1 w o)) hn at_ own ho.2)
    generalize ownX X at_ own = X' at H ⊢
    generalize ownE X at_ own = z at H ⊢
    rw [q] at e1
    clear h x1 x2 x3
    go_enter Try.func12, Try.ntmps12
    go_wp2_with fail
    refine (H.out _).mono ?_
    rintro e w' ⟨g', c', rfl, i1, l1, b1⟩
    have HE := do_ends i1 l1 b1
    clear i1 l1 b1 H
    go_wp2
    go_ret3
    exact ⟨g', c', rfl, HE.out⟩

/-! ### 'same' -/
set_option maxHeartbeats 1000000 in
theorem same12_any (h : Pm w p b m X) (hx : Ints w w.heap.size (some ⟨g, 0, none⟩) n X) :
    Calls Try.prog 13 #[.pointer (some ⟨p, 0, none⟩), .slice (some ⟨g, 0, none⟩) n c] w (BB true w) := by
  have hl := hx.len
  have hn : n ≤ 512 := by rw [← hl]; exact h.l2
  have HP := Lib.hid h
  have HX := Lib.hid hx
  have HF : Hid (((usedN X : Int) == (n : Int)) = (holeOf X == -1)) := Lib.hid (by rw [← hl]; exact full_beq X)
  clear h hx hl
  go_enter Try.func13, Try.ntmps13
  go_wp2
  go_loopw [5] (fun i wr => ∃ (k : Nat) (z : Int), k ≤ n + 2 ∧ z = (k : Int) - 1 ∧ i = .int .i64 z ∧ wr = w) (fun i _ => n + 2 - (intOf i + 1).toNat)
  case atStart => exact ⟨0, -1, by omega, rfl, rfl, rfl⟩
  case round =>
    obtain ⟨k, z, hk, hz, rfl, rfl⟩ := hrel
    by_cases hlt : z ≤ (n : Int)
    · have dk : decide (z ≤ (n : Int)) = true := by simp; omega
      have H1 := Lib.hid (owner_any HP.out z (by omega))
      have H2 := Lib.hid (refOwner_any (c := c) HX.out z)
      generalize ownerOf X z = y at H1 H2
      have e1 : (y != y) = false := by simp
      have wz : IntKind.i64.wrap (z + 1) = z + 1 := IntWalk.i64_in _ (by omega)
      have HZ := Lib.hid hz
      clear hz
      go_wp2_with fail
      refine H1.out.mono ?_
      rintro e w1 ⟨rfl, rfl⟩
      go_wp2_with fail
      refine H2.out.mono ?_
      rintro e w1 ⟨rfl, rfl⟩
      go_wp2
      go_roundw
      case rel => exact ⟨k + 1, z + 1, by have := HZ.out; omega, by have := HZ.out; omega, by go_num, trivial⟩
      case measure => have := HZ.out; simp [intOf]; omega
    · have dk : decide (z ≤ (n : Int)) = false := by simp; omega
      have H1 := Lib.hid (refUsed_any (c := c) HX.out hn)
      have H2 := Lib.hid (used_any HP.out)
      have H3 : Hid (∀ w', Below wr.heap.size wr w' → Calls Try.prog 15 #[.pointer (some ⟨p, 0, none⟩)] w' (BB ((usedN X : Int) == (n : Int)) w')) := Lib.hid (fun w' hb => by rw [HF.out]; exact full_any (HP.out.below hb))
      have H4 : Hid (∀ w', Below wr.heap.size wr w' → Calls Try.prog 16 #[.pointer (some ⟨p, 0, none⟩)] w' (IB (holeOf X) w')) := Lib.hid (fun w' hb => hole_any (HP.out.below hb))
      have H5 : Hid (∀ w', Below wr.heap.size wr w' → Calls Try.prog 28 #[.slice (some ⟨g, 0, none⟩) n c] w' (R1 (holeOf X) w')) := Lib.hid (fun w' hb => refHole_any (HX.out.on hb))
      have H6 : Hid (∀ w', Below wr.heap.size wr w' → Calls Try.prog 17 #[.pointer (some ⟨p, 0, none⟩)] w' (IB (topOf X) w')) := Lib.hid (fun w' hb => top_any (HP.out.below hb))
      have H7 : Hid (∀ w', Below wr.heap.size wr w' → Calls Try.prog 29 #[.slice (some ⟨g, 0, none⟩) n c] w' (R1 (topOf X) w')) := Lib.hid (fun w' hb => refTop_any (HX.out.on hb))
      clear HP HX HF hz
      generalize holeOf X = y1 at H4 H5
      generalize topOf X = y2 at H6 H7
      generalize ((usedN X : Nat) : Int) = y3 at H1 H2 H3
      have e1 : (y1 == y1) = true := by simp
      have e2 : (y2 == y2) = true := by simp
      have e3 : (y3 == y3) = true := by simp
      generalize hy4 : (y3 == (n : Int)) = y4 at H3
      have e4 : (y4 == y4) = true := by simp
      go_wp2_with fail
      refine H1.out.mono ?_
      rintro e w1 ⟨rfl, rfl⟩
      go_wp2_with fail
      refine H2.out.mono ?_
      rintro e w1 ⟨rfl, b1⟩
      have B1 := Lib.hid b1
      clear b1 H1 H2
      go_wp2_with fail
      refine (H3.out _ B1.out).mono ?_
      rintro e w2 ⟨rfl, b2⟩
      have B2 := Lib.hid (belowT B1.out b2)
      clear b2 H3 B1
      go_wp2_with fail
      refine (H4.out _ B2.out).mono ?_
      rintro e w3 ⟨rfl, b3⟩
      have B3 := Lib.hid (belowT B2.out b3)
      clear b3 H4 B2
      go_wp2_with fail
      refine (H5.out _ B3.out).mono ?_
      rintro e w4 ⟨rfl, rfl⟩
      go_wp2_with fail
      refine (H6.out _ B3.out).mono ?_
      rintro e w5 ⟨rfl, b5⟩
      have B5 := Lib.hid (belowT B3.out b5)
      clear b5 H6 B3
      go_wp2_with fail
      refine (H7.out _ B5.out).mono ?_
      rintro e w6 ⟨rfl, rfl⟩
      go_wp2
      go_ret
      exact ⟨rfl, B5.out⟩
end

/-! ### How far the acts have come -/
/-- After some acts: a Page and the document's owners, in block g, hold the same. -/
structure Ps (w0 : World) (p b m g n : Nat) (X : List Int) (w : World) : Prop where
  below : Below w0.heap.size w0 w
  pm : Pm w p b m X
  is : Ints w w.heap.size (some ⟨g, 0, none⟩) n X
  lt : g < w.heap.size
  gb : g ≠ b
  gm : g ≠ m
section
variable {w0 w w4 w5 : World} {p b m g n g' : Nat} {X X' : List Int}
theorem Ps.grow (h : Ps w0 p b m g n X w) (hb : Below w.heap.size w w5) : Ps w0 p b m g n X w5 :=
  ⟨belowT h.below hb, h.pm.below hb, h.is.on hb, Nat.lt_of_lt_of_le h.lt hb.size, h.gb, h.gm⟩
/-- Behind an act of the Page: the document's owners are as they were. -/
theorem Ps.half (h : Ps w0 p b m g n X w) (b4 : But (fun i => i = b ∨ i = m) w w4) : Ints w4 w4.heap.size (some ⟨g, 0, none⟩) n X :=
  (h.is.butAt b4 (Nat.le_refl _) (fun q => q.elim h.gb h.gm)).more b4.size
/-- Behind an act of both. -/
theorem Ps.next (h : Ps w0 p b m g n X w) (hb0 : w0.heap.size ≤ b) (hm0 : w0.heap.size ≤ m) (r4 : Pm w4 p b m X') (b4 : But (fun i => i = b ∨ i = m) w w4) (hn : 0 < n) (s5 : Ints w5 w5.heap.size (some ⟨g', 0, none⟩) n X') (q5 : g' = g ∨ w4.heap.size ≤ g') (b5 : Below w4.heap.size w4 w5) : Ps w0 p b m g' n X' w5 := by
  have l1 := h.pm.bm.size
  have l2 := h.pm.om.lt
  have hs := b4.size
  refine ⟨h.below.trans ((b4.below h.below.size (fun k hk q => by omega)).trans (b5.mono (by have := h.below.size; omega))), r4.below b5, s5, ?_, ?_, ?_⟩
  · obtain ⟨g1, o, e, hg, _⟩ := s5.head hn
    injection e with e
    injection e with e1 e2
    subst e1
    exact hg
  · rcases q5 with q | q
    · rw [q]; exact h.gb
    · omega
  · rcases q5 with q | q
    · rw [q]; exact h.gm
    · omega
end

/-! ### 'awake' -/
set_option maxRecDepth 20000 in
set_option maxHeartbeats 1000000 in
theorem awake12_any (w : World) : Calls Try.prog 8 #[] w (BB true w) := by
  have HN : Hid (Calls Try.prog 9 #[.int .i64 2] w (PgNew 2 w)) := Lib.hid (pageNew_ok 2 (by omega) (by omega) w)
  go_enter Try.func8, Try.ntmps8
  go_wp2_with fail
  refine HN.out.mono ?_
  rintro e w1 ⟨p, b, m, rfl, r1, b1, lp, lb, lm⟩
  have B1 : Hid (But (fun i => i = b ∨ i = m) w w1 ∧ w.heap.size ≤ b ∧ w.heap.size ≤ m) := Lib.hid ⟨Below.but b1 _, lb, lm⟩
  clear b1 lp lb lm HN
  have H1 : Hid (Calls Try.prog 18 #[.pointer (some ⟨p, 0, none⟩), .int .i64 7] w1 (PgEnds (.tuple #[.int .i64 0, .int .i64 0]) p b m [7, -1] w1)) := Lib.hid (pageTake_any r1 7 (by omega))
  clear r1
  go_wp2_with fail
  refine H1.out.mono ?_
  rintro e w2 ⟨rfl, r2, b2⟩
  have B2 := Lib.hid (B1.out.1.trans b2)
  clear b2 H1
  have H2 : Hid (Calls Try.prog 18 #[.pointer (some ⟨p, 0, none⟩), .int .i64 8] w2 (PgEnds (.tuple #[.int .i64 1, .int .i64 0]) p b m [7, 8] w2)) := Lib.hid (pageTake_any r2 8 (by omega))
  clear r2
  go_wp2_with fail
  refine H2.out.mono ?_
  rintro e w3 ⟨rfl, r3, b3⟩
  have B3 := Lib.hid (B2.out.trans b3)
  clear b3 H2 B2
  have H3 : Hid (Calls Try.prog 18 #[.pointer (some ⟨p, 0, none⟩), .int .i64 9] w3 (PgEnds (.tuple #[.int .i64 0, .int .i64 5]) p b m [7, 8] w3)) := Lib.hid (pageTake_any r3 9 (by omega))
  clear r3
  go_wp2_with fail
  refine H3.out.mono ?_
  rintro e w4 ⟨rfl, r4, b4⟩
  have B4 := Lib.hid (B3.out.trans b4)
  clear b4 H3 B3
  have H4 : Hid (Calls Try.prog 15 #[.pointer (some ⟨p, 0, none⟩)] w4 (BB true w4)) := Lib.hid (full_any r4)
  go_wp2_with fail
  refine H4.out.mono ?_
  rintro e w5 ⟨rfl, b5⟩
  have r5 := r4.below b5
  have B5 := Lib.hid (B4.out.trans (Below.but b5 _))
  clear b5 H4 B4 r4
  have H5 : Hid (Calls Try.prog 21 #[.pointer (some ⟨p, 0, none⟩), .int .i64 0] w5 (PgEnds (.int .i64 0) p b m [-1, 8] w5)) := Lib.hid (pageGive_any r5 0)
  clear r5
  go_wp2_with fail
  refine H5.out.mono ?_
  rintro e w6 ⟨rfl, r6, b6⟩
  have B6 := Lib.hid (B5.out.trans b6)
  clear b6 H5 B5
  have H6 : Hid (Calls Try.prog 21 #[.pointer (some ⟨p, 0, none⟩), .int .i64 0] w6 (PgEnds (.int .i64 9) p b m [-1, 8] w6)) := Lib.hid (pageGive_any r6 0)
  clear r6
  go_wp2_with fail
  refine H6.out.mono ?_
  rintro e w7 ⟨rfl, r7, b7⟩
  have B7 := Lib.hid (B6.out.trans b7)
  clear b7 H6 B6
  have H7 : Hid (∀ v, Below w7.heap.size w7 v → Calls Try.prog 16 #[.pointer (some ⟨p, 0, none⟩)] v (IB 0 v)) := Lib.hid (fun v hv => hole_any (r7.below hv))
  have H8 : Hid (∀ v, Below w7.heap.size w7 v → Calls Try.prog 17 #[.pointer (some ⟨p, 0, none⟩)] v (IB 1 v)) := Lib.hid (fun v hv => top_any (r7.below hv))
  have H9 : Hid (∀ v, Below w7.heap.size w7 v → Calls Try.prog 20 #[.pointer (some ⟨p, 0, none⟩), .int .i64 1] v (R1 8 v)) := Lib.hid (fun v hv => owner_any (r7.below hv) 1 (by omega))
  have H10 : Hid (∀ v, Below w7.heap.size w7 v → Calls Try.prog 20 #[.pointer (some ⟨p, 0, none⟩), .int .i64 0] v (R1 (-1) v)) := Lib.hid (fun v hv => owner_any (r7.below hv) 0 (by omega))
  have H11 : Hid (∀ v, Below w7.heap.size w7 v → Calls Try.prog 14 #[.pointer (some ⟨p, 0, none⟩)] v (IB 1 v)) := Lib.hid (fun v hv => used_any (r7.below hv))
  clear r7
  go_wp2_with fail
  refine (H7.out _ (Below.refl _ _)).mono ?_
  rintro e w8 ⟨rfl, b8⟩
  have B8 := Lib.hid b8
  clear b8 H7
  go_wp2_with fail
  refine (H8.out _ B8.out).mono ?_
  rintro e w9 ⟨rfl, b9⟩
  have B9 := Lib.hid (belowT B8.out b9)
  clear b9 H8 B8
  go_wp2_with fail
  refine (H9.out _ B9.out).mono ?_
  rintro e v ⟨rfl, rfl⟩
  go_wp2_with fail
  refine (H10.out _ B9.out).mono ?_
  rintro e v ⟨rfl, rfl⟩
  go_wp2_with fail
  refine (H11.out _ B9.out).mono ?_
  rintro e w10 ⟨rfl, b10⟩
  have BE : Hid (Below w.heap.size w w10) := Lib.hid ((B7.out.trans (Below.but (belowT B9.out b10) _)).below (Nat.le_refl _) (fun k hk q => by have := B1.out.2; omega))
  clear b10 B9 B7 B1
  go_wp2
  go_ret
  exact ⟨rfl, BE.out⟩
end Go.Proofs.Ytglaohclbepmfaa
