/-
  The document's Cut (almeryref16), met by a contract: the spans of the bytes, in new memory, or nothing where they may not be.
-/
import Derived.Test.YtmamihlilgmnaaaChainRow
import Derived.Lib.MinMax
import Derived.Deep.Cut
namespace Go.Proofs.Ytmamihlilgmnaaa
open Go.ChangeShapes Go.WideShapes Go.ChangeAt Go.RowKit Go.Deep

/-- How a call ends that tells spans: in new memory, that may grow. -/
def RefEnds (us : List Sp) (w : World) (e : Ending) (w' : World) : Prop :=
  ∃ a c, e = .returned (.slice a us.length c) ∧ Spans w' w'.heap.size a us.length us ∧ Below w.heap.size w w'

theorem refCut_bad (a n p : Int) (w : World) (ha : -9223372036854775808 ≤ a ∧ a ≤ 9223372036854775807) (hn : -9223372036854775808 ≤ n ∧ n ≤ 9223372036854775807) (h : ¬ mayCut a n p) :
    Calls Try.prog 10 #[.int .i64 a, .int .i64 n, .int .i64 p] w (RefEnds [] w) := by
  have HF : Hid (∀ v, Below w.heap.size w v → RefEnds [] w (.returned (.slice none 0 0)) v) := Lib.hid fun v hv => ⟨none, 0, rfl, Spans.empty _ _ _, hv⟩
  unfold mayCut at h
  by_cases h1 : a < 0
  · have d1 : decide (a < 0) = true := by simpa using h1
    clear h
    go_enter Try.func10, Try.ntmps10
    go_wp2
    go_ret
    exact HF.out _ (Below.refl _ _)
  have d1 : decide (a < 0) = false := by simpa using h1
  by_cases h2 : n < 1
  · have d2 : decide (n < 1) = true := by simpa using h2
    clear h
    go_enter Try.func10, Try.ntmps10
    go_wp2
    go_ret
    exact HF.out _ (Below.refl _ _)
  have d2 : decide (n < 1) = false := by simpa using h2
  by_cases h3 : p < 1
  · have d3 : decide (p < 1) = true := by simpa using h3
    clear h
    go_enter Try.func10, Try.ntmps10
    go_wp2
    go_ret
    exact HF.out _ (Below.refl _ _)
  have d3 : decide (p < 1) = false := by simpa using h3
  by_cases h4 : 16777216 < n
  · have d4 : decide (16777216 < n) = true := by simpa using h4
    clear h
    go_enter Try.func10, Try.ntmps10
    go_wp2
    go_ret
    exact HF.out _ (Below.refl _ _)
  have d4 : decide (16777216 < n) = false := by simpa using h4
  have hlt : 16777216 - n < a := by omega
  have d5 : decide (16777216 - n < a) = true := by simpa using hlt
  clear h
  go_enter Try.func10, Try.ntmps10
  go_wp2
  go_ret
  exact HF.out _ (Below.refl _ _)

/-- The loop ahead of the page k: the spans that there are, in a row of the call's own, and those that are left. -/
structure Rk (w : World) (p e x k : Nat) (v : Value) (W : World) : Prop where
  row : ∃ us, us ++ cutL p e (max x (k * p)) = cutL p e x ∧ W.ownsRow w.heap.size 29 3 v us.length (flat us)
  below : Below w.heap.size w W
/-- One round of it. -/
theorem step_page {p e x k : Nat} (hp : 0 < p) (hk : x / p ≤ k) (hk2 : k ≤ (e - 1) / p) (hx : x < e) :
    max x (k * p) < e ∧ max x (k * p) / p = k ∧ max x (k * p) % p = max x (k * p) - k * p ∧ k * p ≤ max x (k * p) ∧ nxt p e (max x (k * p)) = min e (k * p + p) ∧ cutL p e (min e (k * p + p)) = cutL p e (max x ((k + 1) * p)) := by
  obtain ⟨a1, a2, a3⟩ := page_of hp x
  obtain ⟨b1, b2, b3⟩ := page_of hp (e - 1)
  have h1 : k * p ≤ (e - 1) / p * p := Nat.mul_le_mul_right p hk2
  have h2 : (k + 1) * p = k * p + p := Nat.succ_mul k p
  have h3 : max x (k * p) / p = k := by
    refine Nat.div_eq_of_lt_le (by omega) ?_
    have h4 : x / p * p ≤ k * p := Nat.mul_le_mul_right p hk
    omega
  have h5 : max x (k * p) < e := by omega
  obtain ⟨c1, c2, c3⟩ := page_of hp (max x (k * p))
  rw [h3] at c1 c3
  refine ⟨h5, h3, by omega, by omega, ?_, ?_⟩
  · unfold nxt
    rw [h3, h2]
  · rcases Nat.lt_or_ge (k * p + p) e with g | g
    · rw [Nat.min_eq_right (by omega), h2]
      congr 1
      have h4 : x / p * p ≤ k * p := Nat.mul_le_mul_right p hk
      omega
    · rw [Nat.min_eq_left g, cutL_done (Nat.le_refl _), cutL_done (by omega)]

theorem done_page {p e x k : Nat} (hp : 0 < p) (hk : (e - 1) / p < k) : cutL p e (max x (k * p)) = [] := by
  refine cutL_done ?_
  obtain ⟨b1, b2, b3⟩ := page_of hp (e - 1)
  have h1 : ((e - 1) / p + 1) * p ≤ k * p := Nat.mul_le_mul_right p hk
  omega
/-- A row of the call's own, nil or not, as a slice. -/
theorem own_ends {W : World} {base n : Nat} {v : Value} {us : List Sp} (h : W.ownsRow base 29 3 v n (flat us)) : ∃ a c, v = .slice a n c ∧ Spans W W.heap.size a n us := by
  have hl : us.length = n := by have := h.1; rw [flat_len] at this; omega
  rcases h.2 with ⟨rfl, rfl⟩ | ⟨g, cap, cur, rfl, _⟩
  · obtain rfl : us = [] := List.length_eq_zero_iff.1 hl
    exact ⟨none, 0, rfl, Spans.empty _ _ _⟩
  · exact ⟨_, _, rfl, OwnS.spans h⟩

set_option maxRecDepth 100000 in
set_option maxHeartbeats 2000000 in
theorem refCut_ok (A N P : Nat) (w : World) (h : mayCut A N P) (hP : P ≤ 9223372036854775807) :
    Calls Try.prog 10 #[.int .i64 (A : Int), .int .i64 (N : Int), .int .i64 (P : Int)] w (RefEnds (cutL P (A + N) A) w) := by
  obtain ⟨h1, h2, h3, h4⟩ := h
  have hx : A < A + N := by omega
  have hp : 0 < P := by omega
  have d1 : decide ((A : Int) < 0) = false := decide_eq_false (by omega)
  have d2 : decide ((N : Int) < 1) = false := decide_eq_false (by omega)
  have d3 : decide ((P : Int) < 1) = false := decide_eq_false (by omega)
  have d4 : decide ((16777216 : Int) < (N : Int)) = false := decide_eq_false (by omega)
  have d5 : decide (16777216 - (N : Int) < (A : Int)) = false := decide_eq_false (by omega)
  obtain ⟨q, hq⟩ : ∃ q, A / P = q := ⟨_, rfl⟩
  obtain ⟨z, hz⟩ : ∃ z, (A + N - 1) / P = z := ⟨_, rfl⟩
  obtain ⟨M, hM⟩ : ∃ M, A + N - 1 = M := ⟨_, rfl⟩
  have hqA : q ≤ A := by rw [← hq]; exact Nat.div_le_self A P
  have hzM : z ≤ M := by rw [← hz, hM]; exact Nat.div_le_self M P
  have hq1 : (A : Int).tdiv (P : Int) = (q : Int) := by rw [← hq]; rfl
  have hq2 : (A : Int) / (P : Int) = (q : Int) := by rw [← hq]; simp
  rw [hM] at hz
  have hz1 : (M : Int).tdiv (P : Int) = (z : Int) := by rw [← hz]; rfl
  have hz2 : (M : Int) / (P : Int) = (z : Int) := by rw [← hz]; simp
  have hwM : IntKind.i64.wrap ((A : Int) + (N : Int) - 1) = (M : Int) := by rw [IntWalk.i64_in _ (by omega)]; omega
  have hwS : IntKind.i64.wrap ((A : Int) + (N : Int)) = ((A + N : Nat) : Int) := by rw [IntWalk.i64_in _ (by omega)]; omega
  have hp0 : ¬ (P : Int) = 0 := by omega
  have hz24 : z ≤ 16777216 := by omega
  have hwz : IntKind.i64.wrap (z : Int) = (z : Int) := IntWalk.i64_in _ (by omega)
  have hwq : IntKind.i64.wrap (q : Int) = (q : Int) := IntWalk.i64_in _ (by omega)
  have HQ := Lib.hid hq
  have HZ := Lib.hid hz
  have HM := Lib.hid hM
  clear hq hz hM
  go_enter Try.func10, Try.ntmps10
  go_wp2
  go_loopw [7, 8] (fun v i wr => ∃ k : Nat, q ≤ k ∧ k ≤ z + 1 ∧ i = .int .i64 k ∧ Hid (Rk w P (A + N) A k v wr)) (fun _ i _ => z + 1 - (intOf i).toNat)
  case atStart =>
    refine ⟨q, Nat.le_refl _, ?_, rfl, Lib.hid ⟨⟨[], ?_, World.ownsRow_nil _ _ _ _⟩, Below.refl _ _⟩⟩
    · have h := Nat.div_le_div_right (c := P) (show A ≤ M by have := HM.out; omega)
      rw [HQ.out, HZ.out] at h
      omega
    · obtain ⟨a1, a2, a3⟩ := page_of hp A
      rw [HQ.out] at a1
      rw [Nat.max_eq_left (by omega)]
      rfl
  case round =>
    obtain ⟨k, hqk, hkz, rfl, HR⟩ := hrel
    obtain ⟨us, heq, ho⟩ := HR.out.row
    by_cases hk : k ≤ z
    · have hst := step_page (e := A + N) (x := A) hp (by rw [HQ.out]; exact hqk) (by rw [HM.out, HZ.out]; exact hk) hx
      obtain ⟨K, hK⟩ : ∃ K, k * P = K := ⟨_, rfl⟩
      rw [hK] at hst heq
      obtain ⟨X, hX⟩ : ∃ X, max A K = X := ⟨_, rfl⟩
      rw [hX] at hst heq
      obtain ⟨s1, s2, s3, s4, s5, s6⟩ := hst
      have hXK : X < K + P := by
        have := Nat.mod_lt X hp
        omega
      have hX24 : X ≤ 16777216 := by omega
      have hK24 : K ≤ 16777216 := by omega
      have hKX : K ≤ X := s4
      have hXe : X < A + N := s1
      have hKe : (k : Int) * (P : Int) = (K : Int) := by rw [← hK]; simp
      have hKe2 : ((k * P : Nat) : Int) = (K : Int) := by rw [hK]
      have hmx : max (A : Int) (K : Int) = (X : Int) := by omega
      have hk1 : decide ((k : Int) ≤ (z : Int)) = true := decide_eq_true (by omega)
      have hk2 : decide (k ≤ z) = true := decide_eq_true hk
      obtain ⟨a, ha⟩ : ∃ a, X - K = a := ⟨_, rfl⟩
      have hwA : IntKind.i64.wrap ((X : Int) - (K : Int)) = (a : Int) := by rw [IntWalk.i64_in _ (by omega)]; omega
      obtain ⟨l, hl⟩ : ∃ l, min (A + N) (K + P) - X = l := ⟨_, rfl⟩
      have HEQ : Hid ((us ++ [⟨k, a, l⟩]) ++ cutL P (A + N) (max A ((k + 1) * P)) = cutL P (A + N) A) := Lib.hid (by
        rw [← heq, cutL_step hp s1, ← s6]
        have : spn P (A + N) X = ⟨k, a, l⟩ := by
          unfold spn
          rw [s2, s3, ha, s5, hl]
        rw [this, s5]
        simp)
      have S0 : Spans (wr.alloc (.cells #[.int .i64 (k : Int), .int .i64 (a : Int), .int .i64 (l : Int)] 29)) (wr.alloc (.cells #[.int .i64 (k : Int), .int .i64 (a : Int), .int .i64 (l : Int)] 29)).heap.size (some ⟨wr.heap.size, 0, none⟩) 1 [⟨k, a, l⟩] := by
        have C := Cs.new wr #[.int .i64 (k : Int), .int .i64 (a : Int), .int .i64 (l : Int)] 29 (vs := (Sp.mk k a l).cells) rfl
        refine ⟨rfl, by omega, fun _ _ _ => trivial, fun _ => ⟨wr.heap.size, 0, rfl, C.size, fun i u hu j v hv => ?_⟩⟩
        match i, hu with
        | 0, hu =>
          simp at hu
          subst hu
          rw [Nat.zero_mul, Nat.zero_add]
          exact C.cell j v hv
      have hlen : us.length ≤ 16777216 := by
        have h := congrArg List.length heq
        rw [List.length_append] at h
        have := len_bytes (e := A + N) (x := A) hp
        omega
      obtain ⟨v', w', hrun, o', g'⟩ := app_spans (c := 1) (ho.alloc _) S0 (by have := HR.out.below.size; simp; omega) (by omega) 24
      have NX : Hid (Rk w P (A + N) A (k + 1) v' w') := Lib.hid ⟨⟨us ++ [⟨k, a, l⟩], HEQ.out, by simpa using o'⟩, (HR.out.below.alloc HR.out.below.size _).grown g' (by have := HR.out.below.size; simp; omega) (fun j hj => (ho.lt j hj).1)⟩
      have hwl : IntKind.i64.wrap (k : Int) = (k : Int) := IntWalk.i64_in _ (by omega)
      by_cases hto : P < A + N - K
      · have hd : decide ((P : Int) < (A : Int) + (N : Int) - (K : Int)) = true := decide_eq_true (by omega)
        have hwL : IntKind.i64.wrap ((K : Int) + (P : Int) - (X : Int)) = (l : Int) := by rw [IntWalk.i64_in _ (by omega)]; omega
        clear heq ho S0 o' g' HEQ HR s1 s2 s3 s5 s6 hK hX ha hl
        go_wp2_with (first | (at_builtin; refine wpList_append_run rfl (.tmp 64) (.tmp 75) rfl rfl rfl rfl hrun ?_))
        go_roundw
        case rel => exact ⟨k + 1, by omega, by omega, by go_num, NX⟩
        case measure => simp [intOf]; omega
      · have hd : decide ((P : Int) < (A : Int) + (N : Int) - (K : Int)) = false := decide_eq_false (by omega)
        have hwL : IntKind.i64.wrap ((A : Int) + (N : Int) - (X : Int)) = (l : Int) := by rw [IntWalk.i64_in _ (by omega)]; omega
        clear heq ho S0 o' g' HEQ HR s1 s2 s3 s5 s6 hK hX ha hl
        go_wp2_with (first | (at_builtin; refine wpList_append_run rfl (.tmp 64) (.tmp 75) rfl rfl rfl rfl hrun ?_))
        go_roundw
        case rel => exact ⟨k + 1, by omega, by omega, by go_num, NX⟩
        case measure => simp [intOf]; omega
    · have hk1 : decide ((k : Int) ≤ (z : Int)) = false := decide_eq_false (by omega)
      have hk2 : decide (k ≤ z) = false := decide_eq_false hk
      rw [done_page hp (by rw [HM.out, HZ.out]; omega), List.append_nil] at heq
      subst heq
      obtain ⟨a, c, rfl, hs⟩ := own_ends ho
      have HS := Lib.hid hs
      clear hs ho
      go_wp2
      go_ret
      exact ⟨a, c, rfl, HS.out, HR.out.below⟩

/-- THE DOCUMENT'S CUT: whatever three ints come in. -/
theorem refCut_any (a n p : Int) (w : World) (ha : -9223372036854775808 ≤ a ∧ a ≤ 9223372036854775807) (hn : -9223372036854775808 ≤ n ∧ n ≤ 9223372036854775807) (hp : p ≤ 9223372036854775807) :
    Calls Try.prog 10 #[.int .i64 a, .int .i64 n, .int .i64 p] w (RefEnds (cutI a n p) w) := by
  by_cases h : mayCut a n p
  · obtain ⟨h1, h2, h3, h4⟩ := h
    obtain ⟨A, rfl⟩ : ∃ A : Nat, a = A := ⟨a.toNat, by omega⟩
    obtain ⟨N, rfl⟩ : ∃ N : Nat, n = N := ⟨n.toNat, by omega⟩
    obtain ⟨P, rfl⟩ : ∃ P : Nat, p = P := ⟨p.toNat, by omega⟩
    rw [cutI_on ⟨h1, h2, h3, h4⟩]
    exact refCut_ok A N P w ⟨h1, h2, h3, h4⟩ (by omega)
  · rw [cutI_off h]
    exact refCut_bad a n p w ha hn h
end Go.Proofs.Ytmamihlilgmnaaa
