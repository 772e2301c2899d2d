/-
  The plain lists of package op: an operation's bytes, a script's bytes, and the operations of bytes; what follows of them. No statement about a Go function.
-/
import Derived.Test.YtjnnblcafocdoaaDoorBytesNum
namespace Go.Proofs.YtjnnblcafocdoaaDoor

/-! ### Words there and back -/
theorem bytesOf_wordOf : ∀ {ys : List Int}, Byt ys → bytesOf ys.length (wordOf ys) = ys
  | [], _ => rfl
  | y :: r, h => by
    have h0 := h y (by simp)
    have ih := bytesOf_wordOf (ys := r) (fun x hx => h x (by simp [hx]))
    simp only [List.length_cons, bytesOf, wordOf]
    rw [show (y + 256 * wordOf r) % 256 = y by omega, show (y + 256 * wordOf r) / 256 = wordOf r by omega, ih]
theorem mod_two {w p : Int} (hp : 0 < p) : w % 256 + 256 * (w / 256 % p) = w % (256 * p) := by
  have h1 := Int.mul_ediv_add_emod w 256
  have h2 := Int.mul_ediv_add_emod (w / 256) p
  have r1 := Int.emod_nonneg w (show (256 : Int) ≠ 0 by omega)
  have r2 := Int.emod_lt_of_pos w (show (0 : Int) < 256 by omega)
  have r3 := Int.emod_nonneg (w / 256) (show p ≠ 0 by omega)
  have r4 := Int.emod_lt_of_pos (w / 256) hp
  have e : w = (w % 256 + 256 * (w / 256 % p)) + 256 * p * (w / 256 / p) := by
    rw [Int.mul_assoc]
    omega
  have e2 : w % (256 * p) = (w % 256 + 256 * (w / 256 % p)) % (256 * p) := by
    conv => lhs; rw [e]
    exact Int.add_mul_emod_self_left _ _ _
  rw [e2]
  exact (Int.emod_eq_of_lt (by omega) (by omega)).symm
theorem wordOf_bytesOf : ∀ (k : Nat) (w : Int), wordOf (bytesOf k w) = w % 256 ^ k
  | 0, w => by simp [bytesOf, wordOf, Int.emod_one]
  | k + 1, w => by
    have hp : (0 : Int) < 256 ^ k := Int.pow_pos (by omega)
    simp only [bytesOf, wordOf]
    rw [wordOf_bytesOf k, mod_two hp, Int.pow_succ, Int.mul_comm (256 ^ k) 256]
/-- A number below 0 as one of those 2^64 more, and back. -/
def u64 (n : Int) : Int := n % 18446744073709551616
def i64 (w : Int) : Int := if w < 9223372036854775808 then w else w - 18446744073709551616
theorem u64_i64 {w : Int} (h0 : 0 ≤ w) (h1 : w < 18446744073709551616) : u64 (i64 w) = w := by unfold u64 i64; split <;> omega
theorem i64_u64 {n : Int} (h0 : -9223372036854775808 ≤ n) (h1 : n ≤ 9223372036854775807) : i64 (u64 n) = n := by unfold u64 i64; split <;> omega
theorem i64_in {w : Int} (h0 : 0 ≤ w) (h1 : w < 18446744073709551616) : -9223372036854775808 ≤ i64 w ∧ i64 w ≤ 9223372036854775807 := by unfold i64; split <;> omega

/-! ### An operation -/
structure Opn where
  kind : Int
  h : Int
  a : Int
  b : Int
  bs : List Int
def int64 (n : Int) : Prop := -9223372036854775808 ≤ n ∧ n ≤ 9223372036854775807
/-- Its numbers are ints, its bytes are bytes. -/
structure Opn.Fit (o : Opn) : Prop where
  kind : int64 o.kind
  h : int64 o.h
  a : int64 o.a
  b : int64 o.b
  bs : Byt o.bs
def mayO (o : Opn) : Bool := decide (1 ≤ o.kind) && (decide (o.kind ≤ 7) && (decide (o.bs.length ≤ 65535) && (decide (o.kind = 4) || decide (o.bs.length = 0))))
theorem mayO_true {o : Opn} : mayO o = true ↔ 1 ≤ o.kind ∧ o.kind ≤ 7 ∧ o.bs.length ≤ 65535 ∧ (o.kind = 4 ∨ o.bs.length = 0) := by simp [mayO]
/-- Its bytes. -/
def numL (n : Int) : List Int := bytesOf 8 (u64 n)
def oneL (o : Opn) : List Int := (o.kind % 256) :: (numL o.h ++ (numL o.a ++ (numL o.b ++ (((o.bs.length : Nat) : Int) % 256 :: ((o.bs.length : Nat) : Int) / 256 :: o.bs))))
theorem numL_len (n : Int) : (numL n).length = 8 := length_bytesOf 8 _
theorem oneL_len (o : Opn) : (oneL o).length = 27 + o.bs.length := by simp [oneL, numL_len]; omega
theorem oneL_byt {o : Opn} (h : o.Fit) (hm : mayO o = true) : Byt (oneL o) := by
  obtain ⟨_, _, h3, _⟩ := mayO_true.1 hm
  intro x hx
  simp only [oneL, List.mem_cons, List.mem_append] at hx
  rcases hx with rfl | m | m | m | rfl | rfl | m
  · omega
  · exact bytesOf_byt 8 _ x m
  · exact bytesOf_byt 8 _ x m
  · exact bytesOf_byt 8 _ x m
  · omega
  · omega
  · exact h.bs x m
theorem i64_num {n : Int} (h : int64 n) : i64 (wordOf (numL n)) = n := by
  unfold numL
  rw [wordOf_bytesOf]
  have e : u64 n % 256 ^ 8 = u64 n := by unfold u64; omega
  rw [e]
  exact i64_u64 h.1 h.2
theorem numL_word {ys : List Int} (h : Byt ys) (hl : ys.length = 8) : numL (i64 (wordOf ys)) = ys ∧ int64 (i64 (wordOf ys)) := by
  have hw := wordOf_fit h
  rw [hl] at hw
  have e : (256 : Int) ^ 8 = 18446744073709551616 := by decide
  rw [e] at hw
  refine ⟨?_, i64_in hw.1 hw.2⟩
  unfold numL
  rw [u64_i64 hw.1 hw.2]
  have := bytesOf_wordOf h
  rwa [hl] at this

/-! ### The first operation of bytes -/
def lenAt (b : List Int) : Nat := ((b[25]?).getD 0 + 256 * (b[26]?).getD 0).toNat
def opAt (b : List Int) : Opn := ⟨(b[0]?).getD 0, i64 (wordOf (sub b 1 8)), i64 (wordOf (sub b 9 8)), i64 (wordOf (sub b 17 8)), sub b 27 (lenAt b)⟩
def parse1 (b : List Int) : Option Opn := if b.length < 27 then none else if b.length - 27 < lenAt b then none else if mayO (opAt b) = true then some (opAt b) else none

theorem sub_cons (x : Int) (l : List Int) (n k : Nat) : sub (x :: l) (n + 1) k = sub l n k := by simp [sub]
theorem sub_left (l r : List Int) (k : Nat) (h : l.length = k) : sub (l ++ r) 0 k = l := by simp [sub, ← h]
theorem sub_right (l r : List Int) (m n k : Nat) (h : l.length = m) : sub (l ++ r) (m + n) k = sub r n k := by
  unfold sub
  rw [List.drop_append, List.drop_eq_nil_of_le (by omega), List.nil_append, show m + n - l.length = n by omega]
theorem get_cons (x : Int) (l : List Int) (n : Nat) : (x :: l)[n + 1]? = l[n]? := List.getElem?_cons_succ
theorem get_right (l r : List Int) (m n : Nat) (h : l.length = m) : (l ++ r)[m + n]? = r[n]? := by
  rw [List.getElem?_append_right (by omega), show m + n - l.length = n by omega]
/-- A list's parts: one, three times eight, two, and the rest. -/
theorem six {x0 x y : Int} {A B C D : List Int} (hA : A.length = 8) (hB : B.length = 8) (hC : C.length = 8) {L : List Int} (hL : L = x0 :: (A ++ (B ++ (C ++ (x :: y :: D))))) :
    L[0]? = some x0 ∧ L[25]? = some x ∧ L[26]? = some y ∧ sub L 1 8 = A ∧ sub L 9 8 = B ∧ sub L 17 8 = C ∧ (∀ k, sub L 27 k = D.take k) ∧ L.drop 27 = D := by
  subst hL
  have d : ∀ j, (x0 :: (A ++ (B ++ (C ++ (x :: y :: D))))).drop (1 + (8 + (8 + (8 + j)))) = (x :: y :: D).drop j := by
    intro j
    rw [Nat.add_comm 1, List.drop_succ_cons, List.drop_append, List.drop_eq_nil_of_le (by omega), List.nil_append, hA, show 8 + (8 + (8 + j)) - 8 = 8 + (8 + j) by omega,
      List.drop_append, List.drop_eq_nil_of_le (by omega), List.nil_append, hB, show 8 + (8 + j) - 8 = 8 + j by omega, List.drop_append, List.drop_eq_nil_of_le (by omega), List.nil_append, hC, show 8 + j - 8 = j by omega]
  have g : ∀ j, (x0 :: (A ++ (B ++ (C ++ (x :: y :: D)))))[1 + (8 + (8 + (8 + j)))]? = (x :: y :: D)[j]? := by
    intro j
    have := congrArg (fun l => l[0]?) (d j)
    simpa using this
  refine ⟨rfl, (g 0).trans rfl, (g 1).trans rfl, ?_, ?_, ?_, fun k => ?_, (d 2).trans rfl⟩
  · rw [show (1 : Nat) = 0 + 1 by omega, sub_cons, sub_left _ _ _ hA]
  · exact (sub_cons x0 _ 8 8).trans ((sub_right A _ 8 0 8 hA).trans (sub_left _ _ _ hB))
  · exact (sub_cons x0 _ 16 8).trans ((sub_right A _ 8 8 8 hA).trans ((sub_right B _ 8 0 8 hB).trans (sub_left _ _ _ hC)))
  · unfold sub
    rw [show (27 : Nat) = 1 + (8 + (8 + (8 + 2))) by omega, d 2]
    rfl
/-- What Put tells of one is read again, whatever stands behind. -/
theorem opAt_one {o : Opn} (h : o.Fit) (hm : mayO o = true) (r : List Int) : lenAt (oneL o ++ r) = o.bs.length ∧ opAt (oneL o ++ r) = o := by
  obtain ⟨m1, m2, m3, _⟩ := mayO_true.1 hm
  obtain ⟨g0, g25, g26, s1, s2, s3, s4, _⟩ := six (numL_len o.h) (numL_len o.a) (numL_len o.b) (L := oneL o ++ r) (x0 := o.kind % 256) (x := ((o.bs.length : Nat) : Int) % 256) (y := ((o.bs.length : Nat) : Int) / 256) (D := o.bs ++ r) (by simp [oneL])
  have hl : lenAt (oneL o ++ r) = o.bs.length := by
    unfold lenAt
    rw [g25, g26]
    simp only [Option.getD_some]
    omega
  refine ⟨hl, ?_⟩
  unfold opAt
  rw [g0, s1, s2, s3, hl, s4, i64_num h.h, i64_num h.a, i64_num h.b]
  simp only [Option.getD_some]
  rw [show o.kind % 256 = o.kind by omega, List.take_left]
theorem parse_one {o : Opn} (h : o.Fit) (hm : mayO o = true) (r : List Int) : parse1 (oneL o ++ r) = some o := by
  obtain ⟨h1, h2⟩ := opAt_one h hm r
  unfold parse1
  rw [if_neg (by rw [List.length_append, oneL_len]; omega), h1, if_neg (by rw [List.length_append, oneL_len]; omega), h2, if_pos hm]
theorem sub_join (l : List Int) (o j k : Nat) : sub l o j ++ sub l (o + j) k = sub l o (j + k) := by
  unfold sub
  rw [← List.drop_drop, ← List.take_add]
theorem sub_at {l : List Int} {o : Nat} {z : Int} (h : l[o]? = some z) : sub l o 1 = [z] := by
  obtain ⟨ho, e⟩ := List.getElem?_eq_some_iff.1 h
  unfold sub
  rw [List.drop_eq_getElem_cons ho, e]
  rfl
theorem six_take {b : List Int} {z0 z1 z2 : Int} (h0 : b[0]? = some z0) (h1 : b[25]? = some z1) (h2 : b[26]? = some z2) (m : Nat) :
    b.take (27 + m) = z0 :: (sub b 1 8 ++ (sub b 9 8 ++ (sub b 17 8 ++ (z1 :: z2 :: sub b 27 m)))) := by
  have e : z0 :: (sub b 1 8 ++ (sub b 9 8 ++ (sub b 17 8 ++ (z1 :: z2 :: sub b 27 m)))) = sub b 0 1 ++ (sub b (0 + 1) 8 ++ (sub b (1 + 8) 8 ++ (sub b (9 + 8) 8 ++ (sub b 25 1 ++ (sub b (25 + 1) 1 ++ sub b (26 + 1) m))))) := by
    rw [sub_at h0, sub_at h1, sub_at h2]
    rfl
  rw [e, sub_join b 26 1 m, sub_join b 25 1 (1 + m), show sub b 25 (1 + (1 + m)) = sub b (17 + 8) (1 + (1 + m)) from rfl, sub_join b 17 8 _, sub_join b 9 8 _, sub_join b 1 8 _, sub_join b 0 1 _, show 1 + (8 + (8 + (8 + (1 + (1 + m))))) = 27 + m by omega]
  simp [sub]
/-- What is read is what Put tells, of an operation that may be. -/
theorem one_parse {b : List Int} {o : Opn} (hb : Byt b) (hp : parse1 b = some o) : o.Fit ∧ mayO o = true ∧ 27 + o.bs.length ≤ b.length ∧ oneL o = b.take (27 + o.bs.length) := by
  unfold parse1 at hp
  split at hp
  · cases hp
  · rename_i h27
    split at hp
    · cases hp
    · rename_i hle
      split at hp
      · rename_i hm
        injection hp with hp
        have hlen : (sub b 27 (lenAt b)).length = lenAt b := length_sub _ _ _ (by omega)
        have e8 : ∀ j, j + 8 ≤ b.length → (sub b j 8).length = 8 := fun j hj => length_sub _ _ _ hj
        obtain ⟨n1, f1⟩ := numL_word (hb.sub 1 8) (e8 1 (by omega))
        obtain ⟨n2, f2⟩ := numL_word (hb.sub 9 8) (e8 9 (by omega))
        obtain ⟨n3, f3⟩ := numL_word (hb.sub 17 8) (e8 17 (by omega))
        obtain ⟨z0, x0⟩ : ∃ z, b[0]? = some z := ⟨_, List.getElem?_eq_getElem (by omega)⟩
        obtain ⟨z1, x25⟩ : ∃ z, b[25]? = some z := ⟨_, List.getElem?_eq_getElem (by omega)⟩
        obtain ⟨z2, x26⟩ : ∃ z, b[26]? = some z := ⟨_, List.getElem?_eq_getElem (by omega)⟩
        have b0 := hb.get x0
        have b25 := hb.get x25
        have b26 := hb.get x26
        have el : ((lenAt b : Nat) : Int) = z1 + 256 * z2 := by
          unfold lenAt
          rw [x25, x26]
          simp only [Option.getD_some]
          omega
        subst hp
        have ek : (opAt b).kind = z0 := by unfold opAt; rw [x0]; rfl
        have ebs : (opAt b).bs.length = lenAt b := hlen
        refine ⟨⟨?_, f1, f2, f3, hb.sub 27 _⟩, hm, by rw [ebs]; omega, ?_⟩
        · rw [ek]; exact ⟨by omega, by omega⟩
        · unfold oneL
          rw [ek, ebs, el]
          show z0 % 256 :: (numL (i64 (wordOf (sub b 1 8))) ++ (numL (i64 (wordOf (sub b 9 8))) ++ (numL (i64 (wordOf (sub b 17 8))) ++ ((z1 + 256 * z2) % 256 :: (z1 + 256 * z2) / 256 :: sub b 27 (lenAt b))))) = _
          rw [n1, n2, n3, show z0 % 256 = z0 by omega, show (z1 + 256 * z2) % 256 = z1 by omega, show (z1 + 256 * z2) / 256 = z2 by omega]
          exact (six_take x0 x25 x26 _).symm
      · cases hp

/-! ### Scripts -/
def putL (l : List Opn) : List Int := l.flatMap oneL
/-- What Put tells: bytes, and what is wrong. -/
def putOut (l : List Opn) : List Int × Int := if l.all mayO = true then (putL l, 0) else ([], 2)
theorem putL_nil : putL [] = [] := rfl
theorem putL_cons (o : Opn) (l : List Opn) : putL (o :: l) = oneL o ++ putL l := by simp [putL]
theorem putL_app (l r : List Opn) : putL (l ++ r) = putL l ++ putL r := by simp [putL]
theorem putL_len (l : List Opn) : 27 * l.length ≤ (putL l).length := by
  induction l with
  | nil => simp
  | cons o r ih => rw [putL_cons, List.length_append, oneL_len, List.length_cons]; omega
/-- The operations of bytes; and where the first one begins that is none. -/
def takeL (b : List Int) : List Opn × Option Nat :=
  if _h : b = [] then ([], none) else
  match parse1 b with
  | none => ([], some 0)
  | some o => (o :: (takeL (b.drop (27 + o.bs.length))).1, (takeL (b.drop (27 + o.bs.length))).2.map (· + (27 + o.bs.length)))
termination_by b.length
decreasing_by all_goals (rw [List.length_drop]; have := List.length_pos_iff.2 _h; omega)
theorem takeL_nil : takeL [] = ([], none) := by rw [takeL, dif_pos rfl]
theorem takeL_bad {b : List Int} (h : b ≠ []) (hp : parse1 b = none) : takeL b = ([], some 0) := by rw [takeL, dif_neg h, hp]
theorem takeL_one {b : List Int} {o : Opn} (h : b ≠ []) (hp : parse1 b = some o) : takeL b = (o :: (takeL (b.drop (27 + o.bs.length))).1, (takeL (b.drop (27 + o.bs.length))).2.map (· + (27 + o.bs.length))) := by
  rw [takeL, dif_neg h, hp]
/-- What Take tells: operations, a place, and what is wrong. -/
def takeOut (b : List Int) : List Opn × Int × Int := match (takeL b).2 with
  | none => ((takeL b).1, 0, 0)
  | some p => ([], (p : Int), 2)
/-- All may be. -/
def AllO (l : List Opn) : Prop := ∀ o ∈ l, o.Fit ∧ mayO o = true
theorem AllO.of {l : List Opn} (hf : ∀ o ∈ l, o.Fit) (h : l.all mayO = true) : AllO l := fun o ho => ⟨hf o ho, (List.all_eq_true.1 h) o ho⟩
theorem AllO.may {l : List Opn} (h : AllO l) : l.all mayO = true := List.all_eq_true.2 fun o ho => (h o ho).2
theorem putL_byt {l : List Opn} (h : AllO l) : Byt (putL l) := by
  intro x hx
  obtain ⟨o, ho, hx⟩ := List.mem_flatMap.1 hx
  exact oneL_byt (h o ho).1 (h o ho).2 x hx
/-- P19.3: there and back. -/
theorem take_put {l : List Opn} (h : AllO l) : takeL (putL l) = (l, none) := by
  induction l with
  | nil => exact takeL_nil
  | cons o r ih =>
    have ih := ih fun x hx => h x (by simp [hx])
    obtain ⟨h1, h2⟩ := h o (by simp)
    have hp := parse_one h1 h2 (putL r)
    rw [putL_cons, takeL_one (fun e => by have := congrArg List.length e; rw [List.length_append, oneL_len] at this; simp at this) hp]
    have e : (oneL o ++ putL r).drop (27 + o.bs.length) = putL r := by rw [← oneL_len]; exact List.drop_left
    rw [e, ih]
    rfl
/-- Bytes are what their operations are put as, up to where one is none. -/
theorem put_take : ∀ (n : Nat) (b : List Int), b.length = n → Byt b → AllO (takeL b).1 ∧ ((takeL b).2 = none → putL (takeL b).1 = b) ∧ (∀ p, (takeL b).2 = some p → p < b.length ∧ putL (takeL b).1 = b.take p) := by
  intro n
  induction n using Nat.strongRecOn with
  | _ n ih =>
    intro b hn hb
    by_cases h0 : b = []
    · subst h0
      rw [takeL_nil]
      exact ⟨fun _ h => by simp at h, fun _ => rfl, fun p h => by simp at h⟩
    · have hpos := List.length_pos_iff.2 h0
      cases hp : parse1 b with
      | none =>
        rw [takeL_bad h0 hp]
        refine ⟨fun _ h => by simp at h, fun h => by simp at h, fun p h => ?_⟩
        simp at h
        subst h
        exact ⟨hpos, rfl⟩
      | some o =>
        obtain ⟨o1, o2, o3, o4⟩ := one_parse hb hp
        obtain ⟨i1, i2, i3⟩ := ih (b.drop (27 + o.bs.length)).length (by rw [List.length_drop]; omega) (b.drop (27 + o.bs.length)) rfl (fun x hx => hb x (List.mem_of_mem_drop hx))
        rw [takeL_one h0 hp]
        refine ⟨fun x hx => ?_, fun h => ?_, fun p h => ?_⟩
        · rcases List.mem_cons.1 hx with rfl | m
          · exact ⟨o1, o2⟩
          · exact i1 x m
        · simp at h
          show putL (o :: _) = b
          rw [putL_cons, i2 h, o4, List.take_append_drop]
        · simp only [Option.map_eq_some_iff] at h
          obtain ⟨q, hq, rfl⟩ := h
          obtain ⟨j1, j2⟩ := i3 q hq
          rw [List.length_drop] at j1
          refine ⟨by omega, ?_⟩
          show putL (o :: _) = _
          rw [putL_cons, j2, o4, Nat.add_comm q]
          exact List.take_add.symm
theorem take_spec {b : List Int} (hb : Byt b) : AllO (takeL b).1 ∧ ((takeL b).2 = none → putL (takeL b).1 = b) ∧ (∀ p, (takeL b).2 = some p → p < b.length ∧ putL (takeL b).1 = b.take p) := put_take _ b rfl hb
/-- Up to where one is none there are some. -/
theorem take_upto {b : List Int} (hb : Byt b) {p : Nat} (h : (takeL b).2 = some p) : takeL (b.take p) = ((takeL b).1, none) := by
  obtain ⟨h1, _, h3⟩ := take_spec hb
  rw [← (h3 p h).2]
  exact take_put h1
end Go.Proofs.YtjnnblcafocdoaaDoor
