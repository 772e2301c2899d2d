import Derived.Test.YtfkegbipfekbdaaZRn
import Derived.Test.YtfkegbipfekbdaaZRnDrop
import Derived.Test.YtfkegbipfekbdaaZRnNum
/-
  Package ring: Last, Len, Next, Of, and all of them at nil.
-/
namespace Go.Proofs.Ytfkegbipfekbdaa.Rn
open Go.ChangeShapes Go.WideShapes Go.ChangeAt Go.RowKit
set_option maxRecDepth 100000

section
variable {w : World} {p a b N M : Nat} {F G : Nat → Int}
theorem last_any (h : Rm w p a b N M F G) (i : Int) :
    Calls Try.prog 67 #[.pointer (some ⟨p, 0, none⟩), .int .i64 i] w (R1 (ask M G 1 (-1) i) w) := by
  have HL := Lib.hid (hasList_any h i)
  cases hq : inB M i with
  | false =>
    have e : ask M G 1 (-1) i = (-1) := by unfold ask; rw [hq]; rfl
    rw [hq] at HL
    rw [e]
    clear e hq h
    go_enter Try.func67, Try.ntmps67
    go_wp2_with fail
    refine HL.out.mono ?_
    rintro e w' ⟨rfl, rfl⟩
    go_wp2
    go_ret
    exact ⟨rfl, rfl⟩
  | true =>
    obtain ⟨k, rfl, hk⟩ := inB_nat hq
    have e : ask M G 1 (-1) (k : Int) = G (k * 3 + 1) := by unfold ask; rw [hq]; rfl
    rw [hq] at HL
    rw [e]
    have h0 := h.lists
    have h1 := h.cl (k * 3 + 1) (by omega)
    clear e hq h
    go_enter Try.func67, Try.ntmps67
    go_wp2_with fail
    refine HL.out.mono ?_
    rintro e w' ⟨rfl, rfl⟩
    go_wp2
    go_ret
    exact ⟨rfl, rfl⟩
theorem len_any (h : Rm w p a b N M F G) (i : Int) :
    Calls Try.prog 57 #[.pointer (some ⟨p, 0, none⟩), .int .i64 i] w (R1 (ask M G 2 0 i) w) := by
  have HL := Lib.hid (hasList_any h i)
  cases hq : inB M i with
  | false =>
    have e : ask M G 2 0 i = 0 := by unfold ask; rw [hq]; rfl
    rw [hq] at HL
    rw [e]
    clear e hq h
    go_enter Try.func57, Try.ntmps57
    go_wp2_with fail
    refine HL.out.mono ?_
    rintro e w' ⟨rfl, rfl⟩
    go_wp2
    go_ret
    exact ⟨rfl, rfl⟩
  | true =>
    obtain ⟨k, rfl, hk⟩ := inB_nat hq
    have e : ask M G 2 0 (k : Int) = G (k * 3 + 2) := by unfold ask; rw [hq]; rfl
    rw [hq] at HL
    rw [e]
    have h0 := h.lists
    have h1 := h.cl (k * 3 + 2) (by omega)
    clear e hq h
    go_enter Try.func57, Try.ntmps57
    go_wp2_with fail
    refine HL.out.mono ?_
    rintro e w' ⟨rfl, rfl⟩
    go_wp2
    go_ret
    exact ⟨rfl, rfl⟩
end
theorem hasList_nil (i : Int) (w : World) :
    Calls Try.prog 83 #[.pointer none, .int .i64 i] w (B1 false w) := by
  go_enter Try.func83, Try.ntmps83
  go_wp2
  go_ret
  exact ⟨rfl, rfl⟩
theorem hasNode_nil (i : Int) (w : World) :
    Calls Try.prog 89 #[.pointer none, .int .i64 i] w (B1 false w) := by
  go_enter Try.func89, Try.ntmps89
  go_wp2
  go_ret
  exact ⟨rfl, rfl⟩
theorem first_nil (i : Int) (w : World) :
    Calls Try.prog 61 #[.pointer none, .int .i64 i] w (R1 (-1) w) := by
  go_enter Try.func61, Try.ntmps61
  go_wp2_with fail
  refine (hasList_nil i w).mono ?_
  rintro e w' ⟨rfl, rfl⟩
  go_wp2
  go_ret
  exact ⟨rfl, rfl⟩
theorem last_nil (i : Int) (w : World) :
    Calls Try.prog 67 #[.pointer none, .int .i64 i] w (R1 (-1) w) := by
  go_enter Try.func67, Try.ntmps67
  go_wp2_with fail
  refine (hasList_nil i w).mono ?_
  rintro e w' ⟨rfl, rfl⟩
  go_wp2
  go_ret
  exact ⟨rfl, rfl⟩
theorem len_nil (i : Int) (w : World) :
    Calls Try.prog 57 #[.pointer none, .int .i64 i] w (R1 0 w) := by
  go_enter Try.func57, Try.ntmps57
  go_wp2_with fail
  refine (hasList_nil i w).mono ?_
  rintro e w' ⟨rfl, rfl⟩
  go_wp2
  go_ret
  exact ⟨rfl, rfl⟩
theorem drop_nil (i : Int) (w : World) :
    Calls Try.prog 64 #[.pointer none, .int .i64 i] w (R1 1 w) := by
  go_enter Try.func64, Try.ntmps64
  go_wp2_with fail
  refine (hasNode_nil i w).mono ?_
  rintro e w' ⟨rfl, rfl⟩
  go_wp2
  go_ret
  exact ⟨rfl, rfl⟩
theorem push_nil (i n : Int) (w : World) :
    Calls Try.prog 86 #[.pointer none, .int .i64 i, .int .i64 n] w (R1 1 w) := by
  go_enter Try.func86, Try.ntmps86
  go_wp2_with fail
  refine (hasList_nil i w).mono ?_
  rintro e w' ⟨rfl, rfl⟩
  go_wp2
  go_ret
  exact ⟨rfl, rfl⟩
end Go.Proofs.Ytfkegbipfekbdaa.Rn
/-
  Lists in memory that hold plain lists ('Rg'): what a push and a drop make of them, and what is told of them, in the plain lists' words.
-/
namespace Go.Proofs.Ytfkegbipfekbdaa.Rn
open Go.ChangeShapes Go.WideShapes Go.ChangeAt Go.RowKit
set_option maxRecDepth 100000

/-- The nodes' cells, and the lists'. -/
noncomputable def stF (L : List (List Int)) (q : Nat) : Int := if q % 3 = 0 then prevL L ((q / 3 : Nat) : Int) else if q % 3 = 1 then nextL L ((q / 3 : Nat) : Int) else ofL L ((q / 3 : Nat) : Int)
def stG (L : List (List Int)) (q : Nat) : Int := if q % 3 = 0 then firstL L (q / 3) else if q % 3 = 1 then lastL L (q / 3) else (ln L (q / 3) : Int)
section
variable {L : List (List Int)} {k : Nat}
theorem stF0 : stF L (k * 3) = prevL L k := by unfold stF; rw [if_pos (by omega), show k * 3 / 3 = k by omega]
theorem stF1 : stF L (k * 3 + 1) = nextL L k := by unfold stF; rw [if_neg (by omega), if_pos (by omega), show (k * 3 + 1) / 3 = k by omega]
theorem stF2 : stF L (k * 3 + 2) = ofL L k := by unfold stF; rw [if_neg (by omega), if_neg (by omega), show (k * 3 + 2) / 3 = k by omega]
theorem stG0 : stG L (k * 3) = firstL L k := by unfold stG; rw [if_pos (by omega), show k * 3 / 3 = k by omega]
theorem stG1 : stG L (k * 3 + 1) = lastL L k := by unfold stG; rw [if_neg (by omega), if_pos (by omega), show (k * 3 + 1) / 3 = k by omega]
theorem stG2 : stG L (k * 3 + 2) = (ln L k : Int) := by unfold stG; rw [if_neg (by omega), if_neg (by omega), show (k * 3 + 2) / 3 = k by omega]
end
theorem by_three {F F' : Nat → Int} {N : Nat} (h : ∀ k, k < N → F (k * 3) = F' (k * 3) ∧ F (k * 3 + 1) = F' (k * 3 + 1) ∧ F (k * 3 + 2) = F' (k * 3 + 2)) (q : Nat) (hq : q < N * 3) : F q = F' q := by
  have h1 := h (q / 3) (by omega)
  have : q = q / 3 * 3 ∨ q = q / 3 * 3 + 1 ∨ q = q / 3 * 3 + 2 := by omega
  rcases this with e | e | e
  · rw [e]; exact h1.1
  · rw [e]; exact h1.2.1
  · rw [e]; exact h1.2.2

/-- Block p is Lists that hold the lists L. -/
structure Rg (w : World) (p a b N M C : Nat) (L : List (List Int)) : Prop where
  wf : Wf N M C L
  rm : Rm w p a b N M (stF L) (stG L)

section
variable {w w' : World} {p a b N M C : Nat} {L : List (List Int)}
theorem Rg.but {S : Nat → Prop} (h : Rg w p a b N M C L) (hb : But S w w') (hp : ¬ S p) (hA : ¬ S a) (hB : ¬ S b) : Rg w' p a b N M C L := ⟨h.wf, h.rm.but hb hp hA hB⟩
theorem Rg.below (h : Rg w p a b N M C L) (hb : Below w.heap.size w w') : Rg w' p a b N M C L := ⟨h.wf, h.rm.below hb⟩
theorem Rg.more (h : Rg w p a b N M C L) {C' : Nat} (hC : C ≤ C') : Rg w p a b N M C' L := ⟨h.wf.more hC, h.rm⟩
theorem Rg.own {B : Nat} (hb : But (Own a b) w w') (hB : B ≤ w.heap.size) (h1 : B ≤ a) (h2 : B ≤ b) : Below B w w' :=
  hb.below hB fun k hk s => by
    rcases s with rfl | rfl <;> omega

/-- What First, Last, Len tell. -/
def firstI (L : List (List Int)) (i : Int) : Int := if inB L.length i = true then firstL L i.toNat else -1
def lastI (L : List (List Int)) (i : Int) : Int := if inB L.length i = true then lastL L i.toNat else -1
def lenI (L : List (List Int)) (i : Int) : Int := if inB L.length i = true then (ln L i.toNat : Int) else 0
theorem Wf.out (hw : Wf N M C L) {n : Int} (h : inB N n = false) : ∀ i j, ¬ At L i j n := fun i j k => by
  have := hw.fit _ _ _ k
  simp [inB] at h
  omega
theorem rgFirst (h : Rg w p a b N M C L) (i : Int) :
    Calls Try.prog 61 #[.pointer (some ⟨p, 0, none⟩), .int .i64 i] w (R1 (firstI L i) w) := by
  have := first_any h.rm i
  have e : ask M (stG L) 0 (-1) i = firstI L i := by unfold ask firstI; rw [h.wf.len, Nat.add_zero, stG0]
  rwa [e] at this
theorem rgLast (h : Rg w p a b N M C L) (i : Int) :
    Calls Try.prog 67 #[.pointer (some ⟨p, 0, none⟩), .int .i64 i] w (R1 (lastI L i) w) := by
  have := last_any h.rm i
  have e : ask M (stG L) 1 (-1) i = lastI L i := by unfold ask lastI; rw [h.wf.len, stG1]
  rwa [e] at this
theorem rgLen (h : Rg w p a b N M C L) (i : Int) :
    Calls Try.prog 57 #[.pointer (some ⟨p, 0, none⟩), .int .i64 i] w (R1 (lenI L i) w) := by
  have := len_any h.rm i
  have e : ask M (stG L) 2 0 i = lenI L i := by unfold ask lenI; rw [h.wf.len, stG2]
  rwa [e] at this
/-! ### Push -/
theorem pushF_eq (hw : Wf N M C L) {i n : Nat} (hi : i < M) (hn : n < N) (ho : ∀ i j, ¬ At L i j (n : Int)) (q : Nat) (hq : q < N * 3) : pushF (stF L) (stG L) i n q = stF (pushL L i n) q := by
  refine by_three (N := N) (fun k hk => ?_) q hq
  obtain ⟨t1, t2, t3⟩ := hw.push_told hi ⟨by omega, by omega⟩ ho (k : Int) (by omega)
  rw [stF0, stF1, stF2, t1, t2, t3]
  unfold pushF
  rw [stG0, show firstL L i = gt L i 0 from rfl]
  have hn1 : ¬ (n : Int) = -1 := by omega
  have e1 : joinF (joinF (upd (stF L) (n * 3 + 2) i) n (gt L i 0)) (-1) n = upd (if gt L i 0 = -1 then upd (upd (stF L) (n * 3 + 2) i) (n * 3 + 1) (gt L i 0) else upd (upd (upd (stF L) (n * 3 + 2) i) (n * 3 + 1) (gt L i 0)) ((gt L i 0).toNat * 3) n) (n * 3) (-1) := by
    simp [joinF, hn1]
  rw [e1]
  rcases hw.gt_fit i 0 with g | ⟨f, g, hf⟩
  · rw [if_pos g, g]
    by_cases e : k = n
    · subst e
      refine ⟨?_, ?_, ?_⟩
      · rw [upd, if_pos rfl, if_pos rfl]
      · rw [upd, if_neg (by omega), upd, if_pos rfl, if_pos rfl]
      · rw [upd, if_neg (by omega), upd, if_neg (by omega), upd, if_pos rfl, if_pos rfl]
    · have e' : ¬ (k : Int) = (n : Int) := by omega
      refine ⟨?_, ?_, ?_⟩
      · rw [upd, if_neg (by omega), upd, if_neg (by omega), upd, if_neg (by omega), if_neg e', if_neg (by omega), stF0]
      · rw [upd, if_neg (by omega), upd, if_neg (by omega), upd, if_neg (by omega), if_neg e', stF1]
      · rw [upd, if_neg (by omega), upd, if_neg (by omega), upd, if_neg (by omega), if_neg e', stF2]
  · have g1 : ¬ gt L i 0 = -1 := by omega
    have hfn : f ≠ n := fun z => ho _ _ (gt_at (L := L) (i := i) (j := 0) (by rw [g, z]) (by omega))
    rw [if_neg g1, g, Int.toNat_natCast]
    by_cases e : k = n
    · subst e
      refine ⟨?_, ?_, ?_⟩
      · rw [upd, if_pos rfl, if_pos rfl]
      · rw [upd, if_neg (by omega), upd, if_neg (by omega), upd, if_pos rfl, if_pos rfl]
      · rw [upd, if_neg (by omega), upd, if_neg (by omega), upd, if_neg (by omega), upd, if_pos rfl, if_pos rfl]
    · have e' : ¬ (k : Int) = (n : Int) := by omega
      refine ⟨?_, ?_, ?_⟩
      · rw [upd, if_neg (by omega), upd, if_neg e']
        by_cases y : k = f
        · rw [if_pos (by omega), if_pos (by omega)]
        · rw [if_neg (by omega), upd, if_neg (by omega), upd, if_neg (by omega), if_neg (by omega), stF0]
      · rw [upd, if_neg (by omega), upd, if_neg (by omega), upd, if_neg (by omega), upd, if_neg (by omega), if_neg e', stF1]
      · rw [upd, if_neg (by omega), upd, if_neg (by omega), upd, if_neg (by omega), upd, if_neg (by omega), if_neg e', stF2]
theorem pushG_eq (hw : Wf N M C L) {i n : Nat} (hi : i < M) (q : Nat) (hq : q < M * 3) : pushG (stG L) i n q = stG (pushL L i n) q := by
  refine by_three (N := M) (fun k hk => ?_) q hq
  obtain ⟨t1, t2, t3⟩ := hw.push_ends (n := (n : Int)) hi k
  rw [stG0, stG1, stG2, t1, t2, t3]
  unfold pushG
  rw [stG0, stG2, show firstL L i = gt L i 0 from rfl]
  have hn1 : ¬ (n : Int) = -1 := by omega
  have e1 : joinG (joinG (stG L) i n (gt L i 0)) i (-1) n = upd (if gt L i 0 = -1 then upd (stG L) (i * 3 + 1) n else stG L) (i * 3) n := by
    simp [joinG, hn1]
  rw [e1]
  by_cases e : k = i
  · subst e
    rw [if_pos rfl, if_pos rfl, if_pos rfl]
    refine ⟨?_, ?_, ?_⟩
    · rw [upd, if_neg (by omega), upd, if_pos rfl]
    · rw [upd, if_neg (by omega), upd, if_neg (by omega)]
      by_cases g : gt L k 0 = -1
      · rw [if_pos g, if_pos g, upd, if_pos rfl]
      · rw [if_neg g, if_neg g, stG1]
    · rw [upd, if_pos rfl]
  · rw [if_neg e, if_neg e, if_neg e]
    refine ⟨?_, ?_, ?_⟩
    · rw [upd, if_neg (by omega), upd, if_neg (by omega)]
      by_cases g : gt L i 0 = -1
      · rw [if_pos g, upd, if_neg (by omega), stG0]
      · rw [if_neg g, stG0]
    · rw [upd, if_neg (by omega), upd, if_neg (by omega)]
      by_cases g : gt L i 0 = -1
      · rw [if_pos g, upd, if_neg (by omega), stG1]
      · rw [if_neg g, stG1]
    · rw [upd, if_neg (by omega), upd, if_neg (by omega)]
      by_cases g : gt L i 0 = -1
      · rw [if_pos g, upd, if_neg (by omega), stG2]
      · rw [if_neg g, stG2]

/-! ### Drop -/
theorem dropF_eq (hw : Wf N M C L) {i j n : Nat} (h : At L i j (n : Int)) (q : Nat) (hq : q < N * 3) : dropF (stF L) n q = stF (dropL L i j) q := by
  refine by_three (N := N) (fun k hk => ?_) q hq
  obtain ⟨t1, t2, t3⟩ := hw.drop_told h (k : Int) (by omega)
  rw [stF0, stF1, stF2, t1, t2, t3]
  unfold dropF
  rw [stF0, stF1]
  by_cases e : k = n
  · subst e
    rw [if_pos rfl, if_pos rfl, if_pos rfl]
    refine ⟨?_, ?_, ?_⟩
    · rw [upd, if_neg (by omega), upd, if_neg (by omega), upd, if_pos rfl]
    · rw [upd, if_neg (by omega), upd, if_pos rfl]
    · rw [upd, if_pos rfl]
  · have e' : ¬ (k : Int) = (n : Int) := by omega
    have hp : orNone N (prevL L n) := by
      rw [hw.prev h]
      by_cases z : j = 0
      · rw [if_pos z]; exact Or.inl rfl
      · rw [if_neg z]; exact hw.gt_fit _ _
    have hx : orNone N (nextL L n) := by rw [hw.next h]; exact hw.gt_fit _ _
    rw [if_neg e', if_neg e', if_neg e']
    unfold joinF
    generalize prevL L (n : Int) = x at hp ⊢
    generalize nextL L (n : Int) = y at hx ⊢
    refine ⟨?_, ?_, ?_⟩
    · rw [upd, if_neg (by omega), upd, if_neg (by omega), upd, if_neg (by omega)]
      rcases hp with rfl | ⟨r, rfl, hr⟩ <;> rcases hx with rfl | ⟨s, rfl, hs⟩
      · simp [stF0]
      · have z : ¬ (s : Int) = -1 := by omega
        simp only [if_true, z, if_false, Int.toNat_natCast]
        by_cases g : k = s
        · rw [upd, if_pos (by omega), if_pos (by omega)]
        · rw [upd, if_neg (by omega), if_neg (by omega), stF0]
      · have z : ¬ (r : Int) = -1 := by omega
        simp only [if_true, z, if_false, Int.toNat_natCast]
        rw [upd, if_neg (by omega), if_neg (by omega), stF0]
      · have z : ¬ (s : Int) = -1 := by omega
        have z2 : ¬ (r : Int) = -1 := by omega
        simp only [z, z2, if_false, Int.toNat_natCast]
        by_cases g : k = s
        · rw [upd, if_pos (by omega), if_pos (by omega)]
        · rw [upd, if_neg (by omega), upd, if_neg (by omega), if_neg (by omega), stF0]
    · rw [upd, if_neg (by omega), upd, if_neg (by omega), upd, if_neg (by omega)]
      rcases hp with rfl | ⟨r, rfl, hr⟩ <;> rcases hx with rfl | ⟨s, rfl, hs⟩
      · simp [stF1]
      · have z : ¬ (s : Int) = -1 := by omega
        simp only [if_true, z, if_false, Int.toNat_natCast]
        rw [upd, if_neg (by omega), if_neg (by omega), stF1]
      · have z : ¬ (r : Int) = -1 := by omega
        simp only [if_true, z, if_false, Int.toNat_natCast]
        by_cases g : k = r
        · rw [upd, if_pos (by omega), if_pos (by omega)]
        · rw [upd, if_neg (by omega), if_neg (by omega), stF1]
      · have z : ¬ (s : Int) = -1 := by omega
        have z2 : ¬ (r : Int) = -1 := by omega
        simp only [z, z2, if_false, Int.toNat_natCast]
        by_cases g : k = r
        · rw [upd, if_neg (by omega), upd, if_pos (by omega), if_pos (by omega)]
        · rw [upd, if_neg (by omega), upd, if_neg (by omega), if_neg (by omega), stF1]
    · rw [upd, if_neg (by omega), upd, if_neg (by omega), upd, if_neg (by omega)]
      rcases hp with rfl | ⟨r, rfl, hr⟩ <;> rcases hx with rfl | ⟨s, rfl, hs⟩
      · simp [stF2]
      · have z : ¬ (s : Int) = -1 := by omega
        simp only [if_true, z, if_false, Int.toNat_natCast]
        rw [upd, if_neg (by omega), stF2]
      · have z : ¬ (r : Int) = -1 := by omega
        simp only [if_true, z, if_false, Int.toNat_natCast]
        rw [upd, if_neg (by omega), stF2]
      · have z : ¬ (s : Int) = -1 := by omega
        have z2 : ¬ (r : Int) = -1 := by omega
        simp only [z, z2, if_false, Int.toNat_natCast]
        rw [upd, if_neg (by omega), upd, if_neg (by omega), stF2]
theorem dropG_eq (hw : Wf N M C L) {i j n : Nat} (h : At L i j (n : Int)) (q : Nat) (hq : q < M * 3) : dropG (stF L) (stG L) i n q = stG (dropL L i j) q := by
  refine by_three (N := M) (fun k hk => ?_) q hq
  obtain ⟨t1, t2, t3⟩ := hw.drop_ends h k
  rw [stG0, stG1, stG2, t1, t2, t3]
  unfold dropG
  rw [stF0, stF1, stG2]
  unfold joinG
  generalize prevL L (n : Int) = x
  generalize nextL L (n : Int) = y
  by_cases e : k = i
  · subst e
    rw [if_pos rfl, if_pos rfl, if_pos rfl]
    refine ⟨?_, ?_, ?_⟩
    · rw [upd, if_neg (by omega)]
      by_cases g : x = -1 <;> by_cases f : y = -1 <;> simp [g, f, upd, stG0]
    · rw [upd, if_neg (by omega)]
      by_cases g : x = -1 <;> by_cases f : y = -1 <;> simp [g, f, upd, stG1]
    · rw [upd, if_pos rfl]
  · rw [if_neg e, if_neg e, if_neg e]
    have e0 : ¬ k * 3 = i * 3 := by omega
    have e1 : ¬ k * 3 = i * 3 + 1 := by omega
    have e2 : ¬ k * 3 + 1 = i * 3 := by omega
    have e3 : ¬ k * 3 + 2 = i * 3 := by omega
    have e4 : ¬ k * 3 + 2 = i * 3 + 1 := by omega
    refine ⟨?_, ?_, ?_⟩
    · rw [upd, if_neg (by omega)]
      by_cases g : x = -1 <;> by_cases f : y = -1 <;> simp [g, f, upd, stG0, e0, e1]
    · rw [upd, if_neg (by omega)]
      by_cases g : x = -1 <;> by_cases f : y = -1 <;> simp [g, f, upd, stG1, e0, e2]
    · rw [upd, if_neg (by omega)]
      by_cases g : x = -1 <;> by_cases f : y = -1 <;> simp [g, f, upd, stG2, e3, e4]

/-! ### Both, by what they come to -/
/-- What a push comes to: the lists, and what is wrong. -/
noncomputable def pushOut (N : Nat) (L : List (List Int)) (i n : Int) : List (List Int) × Int :=
  if inB L.length i = true ∧ inB N n = true then (if ofL L n = -1 then (pushL L i.toNat n, 0) else (L, 10)) else (L, 1)
noncomputable def dropOut (N : Nat) (L : List (List Int)) (n : Int) : List (List Int) × Int :=
  if inB N n = true then (match plc L n with | some q => (dropL L q.1 q.2, 0) | none => (L, 9)) else (L, 1)
theorem Wf.of_none (hw : Wf N M C L) {n : Int} (h : ofL L n = -1) : ∀ i j, ¬ At L i j n := fun i j k => by
  rw [hw.of k] at h
  omega
theorem Wf.count (hw : Wf N M C L) (hC : C ≤ 100000) (i : Nat) : 0 ≤ stG L (i * 3 + 2) ∧ stG L (i * 3 + 2) ≤ 1000000 := by
  rw [stG2]
  have := hw.few i
  omega
theorem rgPush (h : Rg w p a b N M C L) (hC : C ≤ 100000) (i n : Int) :
    Calls Try.prog 86 #[.pointer (some ⟨p, 0, none⟩), .int .i64 i, .int .i64 n] w fun e w' => e = .returned (.int .i64 (pushOut N L i n).2) ∧ Rg w' p a b N M (C + 1) (pushOut N L i n).1 ∧ But (Own a b) w w' := by
  unfold pushOut
  rw [h.wf.len]
  by_cases hq : inB M i = true ∧ inB N n = true
  · rw [if_pos hq]
    obtain ⟨i, rfl, hi⟩ := inB_nat hq.1
    obtain ⟨n, rfl, hn⟩ := inB_nat hq.2
    by_cases ho : ofL L n = -1
    · rw [if_pos ho]
      refine (push_ok h.rm i n hi hn (by rw [stF2]; exact ho) (by rw [stG0]; exact h.wf.gt_fit _ _) (h.wf.count hC i)).mono ?_
      rintro e w' ⟨rfl, r, bb⟩
      refine ⟨rfl, ⟨h.wf.push hi ⟨by omega, by omega⟩ (h.wf.of_none ho), ?_⟩, bb⟩
      rw [Int.toNat_natCast]
      exact r.congr (pushF_eq h.wf hi hn (h.wf.of_none ho)) (pushG_eq h.wf hi)
    · rw [if_neg ho]
      refine (push_there h.rm i n hi hn (by rw [stF2]; exact ho)).mono ?_
      rintro e w' ⟨rfl, rfl⟩
      exact ⟨rfl, h.more (by omega), But.refl _ _⟩
  · rw [if_neg hq]
    refine (push_arg h.rm i n hq).mono ?_
    rintro e w' ⟨rfl, rfl⟩
    exact ⟨rfl, h.more (by omega), But.refl _ _⟩
theorem rgDrop (h : Rg w p a b N M C L) (hC : C ≤ 100000) (n : Int) :
    Calls Try.prog 64 #[.pointer (some ⟨p, 0, none⟩), .int .i64 n] w fun e w' => e = .returned (.int .i64 (dropOut N L n).2) ∧ Rg w' p a b N M (C + 1) (dropOut N L n).1 ∧ But (Own a b) w w' := by
  unfold dropOut
  cases hq : inB N n with
  | false =>
    refine (drop_arg h.rm n hq).mono ?_
    rintro e w' ⟨rfl, rfl⟩
    exact ⟨rfl, h.more (by omega), But.refl _ _⟩
  | true =>
    obtain ⟨n, rfl, hn⟩ := inB_nat hq
    rw [if_pos rfl]
    rcases spot L n with ⟨i, j, ha⟩ | ha
    · rw [h.wf.plc ha]
      have hi : i < M := by rw [← h.wf.len]; exact at_len ha
      refine (drop_ok h.rm i n hi hn (by rw [stF2]; exact h.wf.of ha) ?_ (by rw [stF1, h.wf.next ha]; exact h.wf.gt_fit _ _) (h.wf.count hC i)).mono ?_
      · rw [stF0, h.wf.prev ha]
        by_cases z : j = 0
        · rw [if_pos z]; exact Or.inl rfl
        · rw [if_neg z]; exact h.wf.gt_fit _ _
      · rintro e w' ⟨rfl, r, bb⟩
        exact ⟨rfl, ⟨(h.wf.drop ha).more (by omega), r.congr (dropF_eq h.wf ha) (dropG_eq h.wf ha)⟩, bb⟩
    · rw [plc_no ha]
      refine (drop_none h.rm n hn (by rw [stF2]; exact of_no ha)).mono ?_
      rintro e w' ⟨rfl, bb⟩
      exact ⟨rfl, (h.below bb).more (by omega), Below.but bb _⟩
end
end Go.Proofs.Ytfkegbipfekbdaa.Rn
