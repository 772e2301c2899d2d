/-
  May and Due of package plan and of the document (almeryref14), the document's Small and Sum, and Same of two lists of ints (almeryref02), each met by a contract.
-/
import Derived.Test.YtghlngdmcfconaaPlanNum
import Derived.Test.YtghlngdmcfconaaInts
import Derived.Deep.QuietTactic
import Derived.BigQuiet
import Derived.IntWalk
namespace Go.Proofs.Ytghlngdmcfconaa
open Go.ChangeShapes Go.WideShapes Go.ChangeAt Go.RowKit

/-- The first k of counts may be. -/
def okTo (b : Int) (xs : List Int) (k : Nat) : Prop := ∀ (j : Nat) (s : Int), j < k → xs[j]? = some s → 1 ≤ s ∧ s < b
theorem okTo_all {b : Int} {xs : List Int} (h : okTo b xs xs.length) : mayL b xs = true := mayL_iff.2 fun x hx => by
  obtain ⟨j, hj⟩ := List.mem_iff_getElem?.1 hx
  exact h j x (List.getElem?_eq_some_iff.1 hj).1 hj
theorem okTo_next {b : Int} {xs : List Int} {k : Nat} {s : Int} (h : okTo b xs k) (hs : xs[k]? = some s) (hb : 1 ≤ s ∧ s < b) : okTo b xs (k + 1) := fun j z hj hz => by
  by_cases e : j = k
  · subst e
    rw [hs] at hz
    cases hz
    exact hb
  · exact h j z (by omega) hz
theorem mayL_bad {b : Int} {xs : List Int} {k : Nat} {s : Int} (hs : xs[k]? = some s) (hb : ¬ (1 ≤ s ∧ s < b)) : mayL b xs = false := by
  cases h : mayL b xs with
  | false => rfl
  | true => exact absurd (mayL_at h hs) hb

theorem may_any (a : Option Addr) (n c : Nat) (xs : List Int) (b : Int) (B : Nat) (w : World) (h : Ints w B a n xs) :
    Calls Try.prog 9 #[.slice a n c, .int .i64 b] w (B1 (mayL b xs) w) := by
  have hmax := h.max
  have hl := h.len
  go_enter Try.func9, Try.ntmps9
  go_wp2
  go_loop [9] (fun i => ∃ k : Nat, k ≤ n ∧ i = .int .i64 k ∧ okTo b xs k) (fun i => n - (intOf i).toNat)
  case atStart => exact ⟨0, Nat.zero_le _, rfl, fun j _ hj => absurd hj (by omega)⟩
  case round =>
    obtain ⟨k, hk, rfl, hok⟩ := hrel
    by_cases hlt : k < n
    · obtain ⟨s, hs, s1, s2⟩ := h.at_ hlt
      obtain ⟨g, o, rfl, hb, hc⟩ := h.head (by omega)
      have hcell := hc k s hs
      have hlt' : (k : Int) < (n : Int) := by omega
      have dk : decide ((k : Int) < (n : Int)) = true := decide_eq_true hlt'
      by_cases h1 : s < 1
      · have d1 : decide (s < 1) = true := decide_eq_true h1
        have E := Lib.hid (mayL_bad (b := b) hs (by omega))
        clear hc hs hok h1
        go_wp2
        go_ret
        exact ⟨congrArg (fun z => Ending.returned (Value.bool z)) E.out.symm, rfl⟩
      · have d1 : decide (s < 1) = false := decide_eq_false h1
        by_cases h2 : b ≤ s
        · have d2 : decide (b ≤ s) = true := decide_eq_true h2
          have E := Lib.hid (mayL_bad (b := b) hs (by omega))
          clear hc hs hok h1 h2
          go_wp2
          go_ret
          exact ⟨congrArg (fun z => Ending.returned (Value.bool z)) E.out.symm, rfl⟩
        · have d2 : decide (b ≤ s) = false := decide_eq_false h2
          have E := Lib.hid (okTo_next hok hs (by omega))
          clear hc hs hok h1 h2
          go_wp2
          go_round
          case rel => exact ⟨k + 1, by omega, by go_num, E.out⟩
          case measure => simp [intOf]; omega
    · have dk : decide ((k : Int) < (n : Int)) = false := decide_eq_false (by omega)
      have E := Lib.hid (okTo_all (b := b) (xs := xs) (by rw [hl]; rw [show n = k by omega]; exact hok))
      clear hok
      go_wp2
      go_ret
      exact ⟨congrArg (fun z => Ending.returned (Value.bool z)) E.out.symm, rfl⟩
theorem refMay_any (a : Option Addr) (n c : Nat) (xs : List Int) (b : Int) (B : Nat) (w : World) (h : Ints w B a n xs) :
    Calls Try.prog 10 #[.slice a n c, .int .i64 b] w (B1 (mayL b xs) w) := by
  have hmax := h.max
  have hl := h.len
  go_enter Try.func10, Try.ntmps10
  go_wp2
  go_loop [5] (fun i => ∃ k : Nat, k ≤ n ∧ i = .int .i64 k ∧ okTo b xs k) (fun i => n - (intOf i).toNat)
  case atStart => exact ⟨0, Nat.zero_le _, rfl, fun j _ hj => absurd hj (by omega)⟩
  case round =>
    obtain ⟨k, hk, rfl, hok⟩ := hrel
    by_cases hlt : k < n
    · obtain ⟨s, hs, s1, s2⟩ := h.at_ hlt
      obtain ⟨g, o, rfl, hb, hc⟩ := h.head (by omega)
      have hcell := hc k s hs
      have hlt' : (k : Int) < (n : Int) := by omega
      have dk : decide ((k : Int) < (n : Int)) = true := decide_eq_true hlt'
      by_cases h1 : s < 1
      · have d1 : decide (s < 1) = true := decide_eq_true h1
        have E := Lib.hid (mayL_bad (b := b) hs (by omega))
        clear hc hs hok h1
        go_wp2
        go_ret
        exact ⟨congrArg (fun z => Ending.returned (Value.bool z)) E.out.symm, rfl⟩
      · have d1 : decide (s < 1) = false := decide_eq_false h1
        by_cases h2 : b ≤ s
        · have d2 : decide (b ≤ s) = true := decide_eq_true h2
          have E := Lib.hid (mayL_bad (b := b) hs (by omega))
          clear hc hs hok h1 h2
          go_wp2
          go_ret
          exact ⟨congrArg (fun z => Ending.returned (Value.bool z)) E.out.symm, rfl⟩
        · have d2 : decide (b ≤ s) = false := decide_eq_false h2
          have E := Lib.hid (okTo_next hok hs (by omega))
          clear hc hs hok h1 h2
          go_wp2
          go_round
          case rel => exact ⟨k + 1, by omega, by go_num, E.out⟩
          case measure => simp [intOf]; omega
    · have dk : decide ((k : Int) < (n : Int)) = false := decide_eq_false (by omega)
      have E := Lib.hid (okTo_all (b := b) (xs := xs) (by rw [hl]; rw [show n = k by omega]; exact hok))
      clear hok
      go_wp2
      go_ret
      exact ⟨congrArg (fun z => Ending.returned (Value.bool z)) E.out.symm, rfl⟩

theorem due_any (n k : Int) (w : World) (hn : n ≤ 9223372036854775807) (hk : -9223372036854775808 ≤ k ∧ k ≤ 9223372036854775807) :
    Calls Try.prog 11 #[.int .i64 n, .int .i64 k] w (B1 (dueB n k) w) := by
  by_cases h : k < 9223372036854775807
  · have d1 : decide (k < 9223372036854775807) = true := decide_eq_true h
    have hw : IntKind.i64.wrap (k + 1) = k + 1 := IntWalk.i64_in _ (by omega)
    go_enter Try.func11, Try.ntmps11
    go_wp2
    go_ret
    exact ⟨rfl, rfl⟩
  · have d1 : decide (k < 9223372036854775807) = false := decide_eq_false h
    have E : dueB n k = false := decide_eq_false (by omega)
    go_enter Try.func11, Try.ntmps11
    go_wp2
    go_ret
    exact ⟨rfl, rfl⟩
theorem refDue_any (n k : Int) (w : World) (hn : n ≤ 9223372036854775807) (hk : -9223372036854775808 ≤ k ∧ k ≤ 9223372036854775807) :
    Calls Try.prog 12 #[.int .i64 n, .int .i64 k] w (B1 (dueB n k) w) := by
  by_cases h : k < n
  · have d1 : decide (k < n) = true := decide_eq_true h
    have hw : IntKind.i64.wrap (k + 1) = k + 1 := IntWalk.i64_in _ (by omega)
    go_enter Try.func12, Try.ntmps12
    go_wp2
    go_ret
    exact ⟨rfl, rfl⟩
  · have d1 : decide (k < n) = false := decide_eq_false h
    have E : dueB n k = false := decide_eq_false (by omega)
    go_enter Try.func12, Try.ntmps12
    go_wp2
    go_ret
    exact ⟨rfl, rfl⟩

/-- Few counts, of few blocks, that may be. -/
def smB (b : Int) (xs : List Int) : Bool := decide (xs.length ≤ 12) && (decide (b ≤ 20) && mayL b xs)
theorem smB_on {b : Int} {xs : List Int} (h : smB b xs = true) : Sm b xs := by
  simp [smB] at h
  exact ⟨h.1, h.2.1, h.2.2⟩
theorem small_any (a : Option Addr) (n c : Nat) (xs : List Int) (b : Int) (B : Nat) (w : World) (h : Ints w B a n xs) :
    Calls Try.prog 13 #[.slice a n c, .int .i64 b] w (B1 (smB b xs) w) := by
  have HM := Lib.hid (refMay_any a n c xs b B w h)
  have hl := h.len
  have hmax := h.max
  unfold smB
  rw [hl]
  clear h
  by_cases h1 : n ≤ 12
  · have d1 : decide ((n : Int) ≤ 12) = true := decide_eq_true (by omega)
    have d1' : decide (n ≤ 12) = true := decide_eq_true h1
    rw [d1']
    by_cases h2 : b ≤ 20
    · have d2 : decide (b ≤ 20) = true := decide_eq_true h2
      rw [d2]
      go_enter Try.func13, Try.ntmps13
      go_wp2_with fail
      refine HM.out.mono ?_
      rintro e w1 ⟨rfl, rfl⟩
      go_wp2
      go_ret
      exact ⟨rfl, rfl⟩
    · have d2 : decide (b ≤ 20) = false := decide_eq_false h2
      rw [d2]
      go_enter Try.func13, Try.ntmps13
      go_wp2
      go_ret
      exact ⟨rfl, rfl⟩
  · have d1 : decide ((n : Int) ≤ 12) = false := decide_eq_false (by omega)
    have d1' : decide (n ≤ 12) = false := decide_eq_false h1
    rw [d1']
    go_enter Try.func13, Try.ntmps13
    go_wp2
    go_ret
    exact ⟨rfl, rfl⟩

/-- SAME of two slices that read alike. -/
theorem same_alike (a a' : Option Addr) (n c c' : Nat) (xs : List Int) (B : Nat) (w : World) (h : Ints w B a n xs) (h' : Ints w B a' n xs) :
    Calls Try.prog 14 #[.slice a n c, .slice a' n c'] w (BQ true w) := by
  have hmax := h.max
  have hne : ((n : Int) != (n : Int)) = false := by simp
  go_enter Try.func14, Try.ntmps14
  go_wp2
  go_loopw [5] (fun i wr => ∃ k : Nat, k ≤ n ∧ i = .int .i64 k ∧ ∃ d, wr = w.drewN d) (fun i _ => n - (intOf i).toNat)
  case atStart => exact ⟨0, Nat.zero_le _, rfl, 0, rfl⟩
  case round =>
    obtain ⟨k, hk, rfl, d, rfl⟩ := hrel
    by_cases hlt : k < n
    · obtain ⟨s, hs, s1, s2⟩ := h.at_ hlt
      obtain ⟨b, o, rfl, hb, hc⟩ := h.head (by omega)
      obtain ⟨b', o', rfl, hb', hc'⟩ := h'.head (by omega)
      have hcell := hc k s hs
      have hcell' := hc' k s hs
      have hlt' : (k : Int) < (n : Int) := by omega
      have hse : (s != s) = false := by simp
      clear hc hc' hs
      go_wp2
      go_quiet (fail)
      go_wp2
      go_roundw
      case rel => exact ⟨k + 1, by omega, by go_num, _, rfl⟩
      case measure => simp [intOf]; omega
    · go_wp2
      go_ret
      exact ⟨rfl, _, rfl⟩

/-- The document's Sum of few counts that may be. -/
theorem sum_any (a : Option Addr) (n c : Nat) (xs : List Int) (b : Int) (B : Nat) (w : World) (h : Ints w B a n xs) (hs : Sm b xs) :
    Calls Try.prog 19 #[.slice a n c] w (R1 xs.sum w) := by
  have hmax := h.max
  have hl := h.len
  have h12 := hs.len
  have hmay := hs.may
  have fit : ∀ k, 0 ≤ (xs.take k).sum ∧ (xs.take k).sum ≤ 240 := fun k => by
    have := sum_fit (b := b) hs.blk (xs := xs.take k) (mayL_iff.2 fun z hz => mayL_iff.1 hmay z (List.mem_of_mem_take hz))
    have hlen : (xs.take k).length ≤ 12 := by rw [List.length_take]; omega
    omega
  go_enter Try.func19, Try.ntmps19
  go_wp2
  go_loop [3, 4] (fun v i => ∃ k : Nat, k ≤ n ∧ i = .int .i64 k ∧ v = .int .i64 (xs.take k).sum) (fun _ i => n - (intOf i).toNat)
  case atStart => exact ⟨0, Nat.zero_le _, rfl, rfl⟩
  case round =>
    obtain ⟨k, hk, rfl, rfl⟩ := hrel
    by_cases hlt : k < n
    · obtain ⟨s, hsk, s1, s2⟩ := h.at_ hlt
      obtain ⟨g, o, rfl, hb, hc⟩ := h.head (by omega)
      have hcell := hc k s hsk
      have hlt' : (k : Int) < (n : Int) := by omega
      have e : (xs.take (k + 1)).sum = (xs.take k).sum + s := by
        rw [List.take_add_one, hsk]
        simp
      have f0 := fit k
      have f1 := fit (k + 1)
      have hw : IntKind.i64.wrap ((xs.take k).sum + s) = (xs.take (k + 1)).sum := by rw [← e]; exact IntWalk.i64_in _ (by omega)
      generalize (xs.take k).sum = u at hw
      clear hc hsk e f0 f1 fit
      go_wp2
      go_round
      case rel => exact ⟨k + 1, by omega, by go_num, rfl⟩
      case measure => simp [intOf]; omega
    · have e : xs.take k = xs := List.take_of_length_le (by omega)
      rw [e]
      clear fit
      go_wp2
      go_ret
      exact ⟨rfl, rfl⟩
end Go.Proofs.Ytghlngdmcfconaa
