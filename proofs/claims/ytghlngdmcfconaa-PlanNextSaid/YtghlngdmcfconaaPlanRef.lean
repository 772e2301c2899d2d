/-
  The document's Next and Moves (almeryref14), of few counts that may be.
-/
import Derived.Test.YtghlngdmcfconaaPlanAsk
import Derived.Test.YtghlngdmcfconaaIntsApp
import Derived.OwnWalk
namespace Go.Proofs.Ytghlngdmcfconaa
open Go.ChangeShapes Go.WideShapes Go.ChangeAt Go.RowKit Go.Deep

/-- How a call ends that tells ints, all memory that was there as it was. -/
def ListsR (xs : List Int) (w : World) (e : Ending) (w' : World) : Prop := ∃ a c, e = .returned (.slice a xs.length c) ∧ Ints w' w'.heap.size a xs.length xs ∧ Below w.heap.size w w'
/-- A row of the call's own, nil let in, as ints. -/
theorem lists_of_own {w : World} {base n : Nat} {v : Value} {xs : List Int} (h : w.ownsRow base 3 1 v n (xs.map (Value.int .i64))) (hm : n ≤ 1000000) (hf : ∀ x ∈ xs, -9223372036854775808 ≤ x ∧ x ≤ 9223372036854775807) : ∃ a c, v = .slice a n c ∧ Ints w w.heap.size a n xs := by
  have hl : xs.length = n := by have := h.1; simpa using this
  rcases Nat.eq_zero_or_pos n with e | e
  · subst e
    obtain rfl := List.length_eq_zero_iff.1 hl
    rcases h.2 with ⟨e, _⟩ | ⟨g, cap, cur, hv, _⟩
    · exact ⟨none, 0, e, ⟨rfl, by omega, by simp, fun q => absurd q (by omega)⟩⟩
    · exact ⟨_, _, hv, ⟨rfl, by omega, by simp, fun q => absurd q (by omega)⟩⟩
  · obtain ⟨g, cap, rfl, _⟩ := h.form e
    exact ⟨_, _, rfl, (ints_own h hm hf).1⟩

/-- Counts that stay. -/
def okc (b z : Int) : Bool := decide (0 < z) && decide (z < b)
/-- The counts behind a move, ahead of what goes. -/
def moved (x : Int) (mid : List Int) (y : Int) : List Int := (x + 1) :: (mid ++ [y - 1])
theorem moved_ends {b x y : Int} {mid : List Int} (hx : 1 ≤ x ∧ x < b) (hm : mayL b mid = true) (hy : 1 ≤ y ∧ y < b) : (moved x mid y).filter (okc b) = ends b (x + 1) mid (y - 1) := by
  have e : mid.filter (okc b) = mid := List.filter_eq_self.2 fun z hz => by
    have := mayL_iff.1 hm z hz
    simp [okc]
    omega
  have o1 : okc b (x + 1) = decide (¬ x + 1 = b) := by
    unfold okc
    rw [decide_eq_true (show 0 < x + 1 by omega), Bool.true_and]
    exact decide_eq_decide.2 (by omega)
  have o2 : okc b (y - 1) = decide (¬ y - 1 = 0) := by
    unfold okc
    rw [decide_eq_true (show y - 1 < b by omega), Bool.and_true]
    exact decide_eq_decide.2 (by omega)
  unfold moved ends
  rw [List.filter_cons, List.filter_append, e, List.filter_cons, List.filter_nil, o1, o2]
  by_cases h1 : x + 1 = b <;> by_cases h2 : y - 1 = 0 <;> simp only [h1, h2] <;> rfl
/-- What the first k of them leave. -/
def outL (b x : Int) (mid : List Int) (y : Int) (k : Nat) : List Int := ((moved x mid y).take k).filter (okc b)
theorem outL_on {b x y z : Int} {mid : List Int} {k : Nat} (hz : (moved x mid y)[k]? = some z) (h : okc b z = true) : outL b x mid y (k + 1) = outL b x mid y k ++ [z] := by
  rw [outL, List.take_add_one, hz, List.filter_append]
  simp [outL, h]
theorem outL_off {b x y z : Int} {mid : List Int} {k : Nat} (hz : (moved x mid y)[k]? = some z) (h : okc b z = false) : outL b x mid y (k + 1) = outL b x mid y k := by
  rw [outL, List.take_add_one, hz, List.filter_append]
  simp [outL, h]
theorem outL_len (b x : Int) (mid : List Int) (y : Int) (k : Nat) : (outL b x mid y k).length ≤ mid.length + 2 := by
  have h1 := List.length_filter_le (okc b) ((moved x mid y).take k)
  have h2 : ((moved x mid y).take k).length ≤ mid.length + 2 := by rw [List.length_take]; simp [moved]; omega
  unfold outL
  omega
/-- A row of the call's own that has these. -/
structure Ro (w0 : World) (out : List Int) (v : Value) (w : World) : Prop where
  own : w.ownsRow w0.heap.size 3 1 v out.length (out.map (Value.int .i64))
  below : Below w0.heap.size w0 w
theorem Ro.more {w0 w : World} {out : List Int} {v : Value} (h : Ro w0 out v w) (hl : out.length ≤ 1000) (z : Int) : ∃ g cap w', (Builtin.append_ #[22, 22] 22 #[v, .slice (some ⟨w.heap.size, 0, none⟩) 1 1]).run Try.prog (w.alloc (.cells #[.int .i64 z] 3)) = .ok (.slice (some ⟨g, 0, none⟩) (out.length + 1) cap) w' ∧
    Ro w0 (out ++ [z]) (.slice (some ⟨g, 0, none⟩) (out.length + 1) cap) w' := by
  obtain ⟨g, cap, w2, hr, ho, hg, _⟩ := app_one h.own h.below.size (by omega) z 22
  refine ⟨g, cap, w2, hr, ⟨by rw [List.length_append]; exact ho, ?_⟩⟩
  refine Below.grown (h.below.alloc h.below.size _) hg ?_ (fun j hj => ?_)
  · have := h.below.size
    simp
    omega
  · exact (h.own.lt j hj).1

theorem refNext_few (a : Option Addr) (n c : Nat) (xs : List Int) (b : Int) (w : World) (h : Ints w w.heap.size a n xs) (hn : n < 2) :
    Calls Try.prog 16 #[.slice a n c, .int .i64 b] w (ListsR (nextL b xs) w) := by
  have hl := h.len
  rw [nextL_few (by omega)]
  have d1 : decide ((n : Int) < 2) = true := decide_eq_true (by omega)
  have HE : Hid (ListsR xs w (.returned (.slice a n c)) w) := Lib.hid ⟨a, c, by rw [hl], by rw [hl]; exact h, Below.refl _ _⟩
  clear h
  go_enter Try.func16, Try.ntmps16
  go_wp2
  go_ret
  exact HE.out

set_option maxRecDepth 100000 in
set_option maxHeartbeats 2000000 in
theorem refNext_many (a : Option Addr) (n c : Nat) (x : Int) (mid : List Int) (y b : Int) (w : World) (h : Ints w w.heap.size a n (x :: (mid ++ [y]))) (hs : Sm b (x :: (mid ++ [y]))) :
    Calls Try.prog 16 #[.slice a n c, .int .i64 b] w (ListsR (nextL b (x :: (mid ++ [y]))) w) := by
  have hl := h.len
  have h12 := hs.len
  have hb20 := hs.blk
  obtain ⟨hx, hmm, hy⟩ := may_parts hs.may
  simp only [List.length_cons, List.length_append, List.length_nil] at hl h12
  obtain ⟨g0, o0, rfl, hg0, hc0⟩ := h.head (by omega)
  have d1 : decide ((n : Int) < 2) = false := decide_eq_false (by omega)
  have N0 : Hid (Ro w (outL b x mid y 0) (.slice none 0 0) w) := Lib.hid ⟨World.ownsRow_nil _ _ _ _, Below.refl _ _⟩
  have FE : Hid (outL b x mid y n = nextL b (x :: (mid ++ [y]))) := Lib.hid (by
    rw [outL, List.take_of_length_le (by simp [moved]; omega), moved_ends hx hmm hy, nextL_eq])
  have FI : Hid (∀ z ∈ nextL b (x :: (mid ++ [y])), -9223372036854775808 ≤ z ∧ z ≤ 9223372036854775807) := Lib.hid fun z hz => by
    have := mayL_iff.1 (next_may hs.may) z hz
    omega
  have LN : Hid (∀ k, (outL b x mid y k).length ≤ 12) := Lib.hid fun k => by have := outL_len b x mid y k; omega
  have HC := Lib.hid hc0
  clear hc0 h hs
  go_enter Try.func16, Try.ntmps16
  go_wp2
  go_loopw [5, 6] (fun v i wr => ∃ k : Nat, k ≤ n ∧ i = .int .i64 k ∧ Hid (Ro w (outL b x mid y k) v wr)) (fun _ i _ => n - (intOf i).toNat)
  case atStart => exact ⟨0, by omega, rfl, N0⟩
  case round =>
    obtain ⟨k, hk, rfl, HS⟩ := hrel
    clear N0
    by_cases hlt : k < n
    · have hlt' : (k : Int) < (n : Int) := by omega
      have dk : decide ((k : Int) < (n : Int)) = true := decide_eq_true hlt'
      by_cases k0 : k = 0
      · subst k0
        have hcell : wr.cell? ⟨g0, o0, none⟩ = some (.int .i64 x) := (HS.out.below.cell (p := ⟨g0, o0, none⟩) hg0).trans (HC.out 0 x rfl)
        obtain ⟨z, hz⟩ : ∃ z, x + 1 = z := ⟨_, rfl⟩
        have hw : IntKind.i64.wrap (x + 1) = z := (IntWalk.i64_in _ (by omega)).trans hz
        have HZ : Hid ((moved x mid y)[0]? = some z) := Lib.hid (by rw [← hz]; rfl)
        have nl : ((0 : Int) == (n : Int) - 1) = false := by simp; omega
        have zz : z < 30 := by omega
        clear hz
        by_cases z0 : 0 < z
        · have dz : decide (0 < z) = true := decide_eq_true z0
          by_cases zb : z < b
          · have db : decide (z < b) = true := decide_eq_true zb
            have OK : Hid (okc b z = true) := Lib.hid (by simp [okc, z0, zb])
            obtain ⟨g, cap, w2, hr, ho⟩ := HS.out.more (by have := LN.out (0); omega) z
            have HN : Hid (Ro w (outL b x mid y (0 + 1)) _ w2) := Lib.hid (by rw [outL_on HZ.out OK.out]; exact ho)
            have R := Lib.hid hr
            clear hr ho HS OK HZ FI FE
            go_wp2_with (at_builtin; refine wpList_append_run rfl _ _ rfl rfl rfl rfl R.out ?_)
            go_roundw
            case rel => exact ⟨0 + 1, by omega, by go_num, HN⟩
            case measure => simp [intOf]; omega
          · have db : decide (z < b) = false := decide_eq_false zb
            have OK : Hid (okc b z = false) := Lib.hid (by simp [okc, zb])
            have HN : Hid (Ro w (outL b x mid y (0 + 1)) _ wr) := Lib.hid (by rw [outL_off HZ.out OK.out]; exact HS.out)
            clear HS OK HZ FI FE
            go_wp2
            go_roundw
            case rel => exact ⟨0 + 1, by omega, by go_num, HN⟩
            case measure => simp [intOf]; omega
        · have dz : decide (0 < z) = false := decide_eq_false z0
          have OK : Hid (okc b z = false) := Lib.hid (by simp [okc, z0])
          have HN : Hid (Ro w (outL b x mid y (0 + 1)) _ wr) := Lib.hid (by rw [outL_off HZ.out OK.out]; exact HS.out)
          clear HS OK HZ FI FE
          go_wp2
          go_roundw
          case rel => exact ⟨0 + 1, by omega, by go_num, HN⟩
          case measure => simp [intOf]; omega
      · by_cases kl : k = n - 1
        · have hcell : wr.cell? ⟨g0, o0 + k, none⟩ = some (.int .i64 y) := (HS.out.below.cell (p := ⟨g0, o0 + k, none⟩) hg0).trans (HC.out k y (by
        obtain rfl : k = mid.length + 1 := by omega
        rw [List.getElem?_cons_succ, List.getElem?_append_right (Nat.le_refl _)]
        simp))
          obtain ⟨z, hz⟩ : ∃ z, y - 1 = z := ⟨_, rfl⟩
          have hw : IntKind.i64.wrap (y - 1) = z := (IntWalk.i64_in _ (by omega)).trans hz
          have HZ : Hid ((moved x mid y)[k]? = some z) := Lib.hid (by
        obtain rfl : k = mid.length + 1 := by omega
        rw [moved, List.getElem?_cons_succ, List.getElem?_append_right (Nat.le_refl _), ← hz]
        simp)
          have k0' : ((k : Int) == 0) = false := by simp; omega
          have nl : ((k : Int) == (n : Int) - 1) = true := by simp; omega
          have zz : z < 30 := by omega
          clear hz kl k0
          by_cases z0 : 0 < z
          · have dz : decide (0 < z) = true := decide_eq_true z0
            by_cases zb : z < b
            · have db : decide (z < b) = true := decide_eq_true zb
              have OK : Hid (okc b z = true) := Lib.hid (by simp [okc, z0, zb])
              obtain ⟨g, cap, w2, hr, ho⟩ := HS.out.more (by have := LN.out (k); omega) z
              have HN : Hid (Ro w (outL b x mid y (k + 1)) _ w2) := Lib.hid (by rw [outL_on HZ.out OK.out]; exact ho)
              have R := Lib.hid hr
              clear hr ho HS OK HZ FI FE
              go_wp2_with (at_builtin; refine wpList_append_run rfl _ _ rfl rfl rfl rfl R.out ?_)
              go_roundw
              case rel => exact ⟨k + 1, by omega, by go_num, HN⟩
              case measure => simp [intOf]; omega
            · have db : decide (z < b) = false := decide_eq_false zb
              have OK : Hid (okc b z = false) := Lib.hid (by simp [okc, zb])
              have HN : Hid (Ro w (outL b x mid y (k + 1)) _ wr) := Lib.hid (by rw [outL_off HZ.out OK.out]; exact HS.out)
              clear HS OK HZ FI FE
              go_wp2
              go_roundw
              case rel => exact ⟨k + 1, by omega, by go_num, HN⟩
              case measure => simp [intOf]; omega
          · have dz : decide (0 < z) = false := decide_eq_false z0
            have OK : Hid (okc b z = false) := Lib.hid (by simp [okc, z0])
            have HN : Hid (Ro w (outL b x mid y (k + 1)) _ wr) := Lib.hid (by rw [outL_off HZ.out OK.out]; exact HS.out)
            clear HS OK HZ FI FE
            go_wp2
            go_roundw
            case rel => exact ⟨k + 1, by omega, by go_num, HN⟩
            case measure => simp [intOf]; omega
        · obtain ⟨z, hz⟩ : ∃ z, mid[k - 1]? = some z := ⟨_, List.getElem?_eq_getElem (by omega)⟩
          obtain ⟨j, rfl⟩ : ∃ j, k = j + 1 := ⟨k - 1, by omega⟩
          rw [Nat.add_sub_cancel] at hz
          have hj := (List.getElem?_eq_some_iff.1 hz).1
          have hcell : wr.cell? ⟨g0, o0 + (j + 1), none⟩ = some (.int .i64 z) := (HS.out.below.cell (p := ⟨g0, o0 + (j + 1), none⟩) hg0).trans (HC.out (j + 1) z (by
        rw [List.getElem?_cons_succ, List.getElem?_append_left hj]
        exact hz))
          have HZ : Hid ((moved x mid y)[j + 1]? = some z) := Lib.hid (by rw [moved, List.getElem?_cons_succ, List.getElem?_append_left hj]; exact hz)
          have hzz := mayL_at hmm hz
          obtain ⟨k, ek⟩ : ∃ k, j + 1 = k := ⟨_, rfl⟩
          rw [ek] at hcell HZ HS hlt hlt' dk kl hk k0 ⊢
          have k0' : ((k : Int) == 0) = false := by simp; omega
          have nl : ((k : Int) == (n : Int) - 1) = false := by simp; omega
          have dz : decide (0 < z) = true := decide_eq_true (by omega)
          have db : decide (z < b) = true := decide_eq_true (by omega)
          have OK : Hid (okc b z = true) := Lib.hid (by simp [okc]; omega)
          clear hz kl k0 ek hj
          obtain ⟨g, cap, w2, hr, ho⟩ := HS.out.more (by have := LN.out (k); omega) z
          have HN : Hid (Ro w (outL b x mid y (k + 1)) _ w2) := Lib.hid (by rw [outL_on HZ.out OK.out]; exact ho)
          have R := Lib.hid hr
          clear hr ho HS OK HZ FI FE
          go_wp2_with (at_builtin; refine wpList_append_run rfl _ _ rfl rfl rfl rfl R.out ?_)
          go_roundw
          case rel => exact ⟨k + 1, by omega, by go_num, HN⟩
          case measure => simp [intOf]; omega
    · have dk : decide ((k : Int) < (n : Int)) = false := decide_eq_false (by omega)
      obtain rfl : k = n := by omega
      have own := HS.out.own
      have bel := HS.out.below
      rw [FE.out] at own
      obtain ⟨a9, c9, rfl, i9⟩ := lists_of_own own (by have := LN.out k; rw [FE.out] at this; omega) FI.out
      have HE : Hid (ListsR (nextL b (x :: (mid ++ [y]))) w (.returned (.slice a9 (nextL b (x :: (mid ++ [y]))).length c9)) wr) := Lib.hid ⟨a9, c9, rfl, i9, bel⟩
      clear own bel i9 HS FI FE
      generalize nextL b (x :: (mid ++ [y])) = ys at *
      go_wp2
      go_ret
      exact HE.out

theorem refNext_any (a : Option Addr) (n c : Nat) (xs : List Int) (b : Int) (w : World) (h : Ints w w.heap.size a n xs) (hs : Sm b xs) :
    Calls Try.prog 16 #[.slice a n c, .int .i64 b] w (ListsR (nextL b xs) w) := by
  have hl := h.len
  by_cases h2 : n < 2
  · exact refNext_few a n c xs b w h h2
  · obtain ⟨x, mid, y, rfl⟩ := two_ends (xs := xs) (by omega)
    exact refNext_many a n c x mid y b w h hs
end Go.Proofs.Ytghlngdmcfconaa
