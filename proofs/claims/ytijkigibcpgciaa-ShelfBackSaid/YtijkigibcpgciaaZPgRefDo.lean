import Derived.Test.YtijkigibcpgciaaZPgRef
/-
  The document's own answers for package page (almeryref12): Take, Give, Own.
-/
namespace Go.Proofs.Ytijkigibcpgciaa.Pg
open Go.ChangeShapes Go.WideShapes Go.ChangeAt Go.RowKit Go.Deep
set_option maxRecDepth 100000

/-- How a change of the owners ends: the slice that came in, or another one; with one more answer. -/
def RefP (n b : Nat) (X : List Int) (z : Int) (w : World) (e : Ending) (w' : World) : Prop :=
  ∃ g c, e = .returned (.tuple #[.slice (some ⟨g, 0, none⟩) n c, .int .i64 z]) ∧ Ints w' w'.heap.size (some ⟨g, 0, none⟩) n X ∧ (g = b ∨ w.heap.size ≤ g) ∧ Below w.heap.size w w'
/-- The same, with two more answers. -/
def RefP3 (n b : Nat) (X : List Int) (a z : Int) (w : World) (e : Ending) (w' : World) : Prop :=
  ∃ g c, e = .returned (.tuple #[.slice (some ⟨g, 0, none⟩) n c, .int .i64 a, .int .i64 z]) ∧ Ints w' w'.heap.size (some ⟨g, 0, none⟩) n X ∧ (g = b ∨ w.heap.size ≤ g) ∧ Below w.heap.size w w'
section
variable {w : World} {b n c : Nat} {X : List Int}
theorem refTake_any (h : Ints w w.heap.size (some ⟨b, 0, none⟩) n X) (hn : n ≤ 512) (o : Int) (ho : o ≤ 9223372036854775807) :
    Calls Try.prog 59 #[.slice (some ⟨b, 0, none⟩) n c, .int .i64 o] w (RefP3 n b (takeX X o) (takeA X o) (takeE X o) w) := by
  have HI := Lib.hid h
  by_cases h0 : o < 0
  · obtain ⟨e1, e2, e3⟩ := take_neg (X := X) h0
    rw [e1, e2, e3]
    have d0 : decide (o < 0) = true := decide_eq_true h0
    clear h e1 e2 e3
    go_enter Try.func59, Try.ntmps59
    go_wp2
    go_ret3
    exact ⟨b, c, rfl, HI.out, Or.inl rfl, Below.refl _ _⟩
  · have h0' : 0 ≤ o := by omega
    have d0 : decide (o < 0) = false := decide_eq_false h0
    have HH := Lib.hid (refHole_any (c := c) h)
    rcases hole_cases X with ⟨hf, _⟩ | ⟨i, hf, hi, hx, _⟩
    · obtain ⟨e1, e2, e3⟩ := take_full h0' hf
      rw [e1, e2, e3]
      rw [hf] at HH
      clear h e1 e2 e3 hf
      go_enter Try.func59, Try.ntmps59
      go_wp2_with fail
      refine HH.out.mono ?_
      rintro e w' ⟨rfl, rfl⟩
      go_wp2
      go_ret3
      exact ⟨b, c, rfl, HI.out, Or.inl rfl, Below.refl _ _⟩
    · obtain ⟨e1, e2, e3⟩ := take_at h0' hf
      rw [e1, e2, e3]
      rw [hf] at HH
      have HW := Lib.hid (refWith_any (c := c) h hn i (by rw [← h.len]; exact hi) o (by omega))
      have di : decide ((i : Int) < 0) = false := decide_eq_false (by omega)
      clear h e1 e2 e3 hf hx hi
      go_enter Try.func59, Try.ntmps59
      go_wp2_with fail
      refine HH.out.mono ?_
      rintro e w' ⟨rfl, rfl⟩
      go_wp2_with fail
      refine HW.out.mono ?_
      rintro e w' ⟨g, c', rfl, i1, l1, b1⟩
      have HE : Hid (Ints w' w'.heap.size (some ⟨g, 0, none⟩) n (X.set i o) ∧ (g = b ∨ w.heap.size ≤ g) ∧ Below w.heap.size w w') := Lib.hid ⟨i1, Or.inr l1, b1⟩
      clear i1 l1 b1 HW HI
      go_wp2
      go_ret3
      exact ⟨g, c', rfl, HE.out⟩
theorem refGive_any (h : Ints w w.heap.size (some ⟨b, 0, none⟩) n X) (hn : n ≤ 512) (at_ : Int) :
    Calls Try.prog 63 #[.slice (some ⟨b, 0, none⟩) n c, .int .i64 at_] w (RefP n b (giveX X at_) (giveE X at_) w) := by
  have HI := Lib.hid h
  have hl := h.len
  have hm := h.max
  cases q : inP X at_ with
  | false =>
    obtain ⟨e1, e2⟩ := give_off q
    rw [e1, e2]
    simp [inP, hl] at q
    clear h e1 e2 hl
    by_cases h0 : at_ < 0
    · have d0 : decide (at_ < 0) = true := decide_eq_true h0
      clear q
      go_enter Try.func63, Try.ntmps63
      go_wp2
      go_ret2
      exact ⟨b, c, rfl, HI.out, Or.inl rfl, Below.refl _ _⟩
    · have d0 : decide (at_ < 0) = false := decide_eq_false h0
      have d1 : decide ((n : Int) ≤ at_) = true := decide_eq_true (q (by omega))
      clear q
      go_enter Try.func63, Try.ntmps63
      go_wp2
      go_ret2
      exact ⟨b, c, rfl, HI.out, Or.inl rfl, Below.refl _ _⟩
  | true =>
    obtain ⟨k, rfl, hk⟩ := inP_in q
    have hc := h.cell0Pg (k := k) (by omega)
    have hki : (k : Int) < (n : Int) := by omega
    have d0 : decide ((k : Int) < 0) = false := decide_eq_false (by omega)
    have d1 : decide ((n : Int) ≤ (k : Int)) = false := decide_eq_false (by omega)
    by_cases hx : ow X k = -1
    · obtain ⟨e1, e2⟩ := give_free hk hx
      rw [e1, e2]
      rw [hx] at hc
      clear h e1 e2 hl q hk hx
      go_enter Try.func63, Try.ntmps63
      go_wp2
      go_ret2
      exact ⟨b, c, rfl, HI.out, Or.inl rfl, Below.refl _ _⟩
    · obtain ⟨e1, e2⟩ := give_at hk hx
      rw [e1, e2]
      have HW := Lib.hid (refWith_any (c := c) h hn k (by omega) (-1) (by omega))
      have dx : (ow X k == -1) = false := by simpa using hx
      generalize ow X k = z at hc dx
      clear h e1 e2 hl q hk hx
      go_enter Try.func63, Try.ntmps63
      go_wp2_with fail
      refine HW.out.mono ?_
      rintro e w' ⟨g, c', rfl, i1, l1, b1⟩
      have HE : Hid (Ints w' w'.heap.size (some ⟨g, 0, none⟩) n (X.set k (-1)) ∧ (g = b ∨ w.heap.size ≤ g) ∧ Below w.heap.size w w') := Lib.hid ⟨i1, Or.inr l1, b1⟩
      clear i1 l1 b1 HW HI
      go_wp2
      go_ret2
      exact ⟨g, c', rfl, HE.out⟩
theorem refOwn_any (h : Ints w w.heap.size (some ⟨b, 0, none⟩) n X) (hn : n ≤ 512) (at_ o : Int) (ho : o ≤ 9223372036854775807) :
    Calls Try.prog 65 #[.slice (some ⟨b, 0, none⟩) n c, .int .i64 at_, .int .i64 o] w (RefP n b (ownX X at_ o) (ownE X at_ o) w) := by
  have HI := Lib.hid h
  have hl := h.len
  have hm := h.max
  cases q : inP X at_ with
  | false =>
    obtain ⟨e1, e2⟩ := own_off (o := o) (Or.inl q)
    rw [e1, e2]
    simp [inP, hl] at q
    clear h e1 e2 hl
    by_cases h0 : at_ < 0
    · have d0 : decide (at_ < 0) = true := decide_eq_true h0
      clear q
      go_enter Try.func65, Try.ntmps65
      go_wp2
      go_ret2
      exact ⟨b, c, rfl, HI.out, Or.inl rfl, Below.refl _ _⟩
    · have d0 : decide (at_ < 0) = false := decide_eq_false h0
      have d1 : decide ((n : Int) ≤ at_) = true := decide_eq_true (q (by omega))
      clear q
      go_enter Try.func65, Try.ntmps65
      go_wp2
      go_ret2
      exact ⟨b, c, rfl, HI.out, Or.inl rfl, Below.refl _ _⟩
  | true =>
    obtain ⟨k, rfl, hk⟩ := inP_in q
    have hc := h.cell0Pg (k := k) (by omega)
    have hki : (k : Int) < (n : Int) := by omega
    have d0 : decide ((k : Int) < 0) = false := decide_eq_false (by omega)
    have d1 : decide ((n : Int) ≤ (k : Int)) = false := decide_eq_false (by omega)
    by_cases h0 : o < 0
    · obtain ⟨e1, e2⟩ := own_off (X := X) (n := (k : Int)) (Or.inr h0)
      rw [e1, e2]
      have d2 : decide (o < 0) = true := decide_eq_true h0
      clear h e1 e2 hl q hk hc
      go_enter Try.func65, Try.ntmps65
      go_wp2
      go_ret2
      exact ⟨b, c, rfl, HI.out, Or.inl rfl, Below.refl _ _⟩
    have h0' : 0 ≤ o := by omega
    have d2 : decide (o < 0) = false := decide_eq_false h0
    by_cases hx : ow X k = -1
    · obtain ⟨e1, e2⟩ := own_free hk h0' hx
      rw [e1, e2]
      rw [hx] at hc
      clear h e1 e2 hl q hk hx
      go_enter Try.func65, Try.ntmps65
      go_wp2
      go_ret2
      exact ⟨b, c, rfl, HI.out, Or.inl rfl, Below.refl _ _⟩
    · obtain ⟨e1, e2⟩ := own_at hk h0' hx
      rw [e1, e2]
      have HW := Lib.hid (refWith_any (c := c) h hn k (by omega) o (by omega))
      have dx : (ow X k == -1) = false := by simpa using hx
      generalize ow X k = z at hc dx
      clear h e1 e2 hl q hk hx
      go_enter Try.func65, Try.ntmps65
      go_wp2_with fail
      refine HW.out.mono ?_
      rintro e w' ⟨g, c', rfl, i1, l1, b1⟩
      have HE : Hid (Ints w' w'.heap.size (some ⟨g, 0, none⟩) n (X.set k o) ∧ (g = b ∨ w.heap.size ≤ g) ∧ Below w.heap.size w w') := Lib.hid ⟨i1, Or.inr l1, b1⟩
      clear i1 l1 b1 HW HI
      go_wp2
      go_ret2
      exact ⟨g, c', rfl, HE.out⟩
end
end Go.Proofs.Ytijkigibcpgciaa.Pg
