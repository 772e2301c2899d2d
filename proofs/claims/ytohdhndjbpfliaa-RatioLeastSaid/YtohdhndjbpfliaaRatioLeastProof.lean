/-
  RatioLeast: whatever floats come in, the law returns true, and the input reads behind the call as it did.
-/
import Derived.Test.YtohdhndjbpfliaaRows
import Derived.WalkKit
import Derived.ProofKit
import Derived.OpenShut
import Derived.Test.YtohdhndjbpfliaaRatioAwake
import Derived.ShutString
import Derived.ChangeOld
import Derived.Below
namespace Go.Proofs.Ytohdhndjbpfliaa.ratioLeast
open Go.ChangeShapes Go.WideShapes Go.ChangeAt Go.RowKit
open Go.ChangeMaps (open_string shut_string)
set_option linter.unusedVariables false

theorem own : ownKnob Try.prog.godebug = none := by kernel_rfl
theorem laidOut : laidOutB Try.prog = true := by kernel_rfl

theorem from_le (m : Nat) (l : List Nat) : key (leastFrom m l) ≤ key m ∧ ∀ x ∈ l, key (leastFrom m l) ≤ key x := by
  induction l generalizing m with
  | nil => exact ⟨Int.le_refl _, by simp⟩
  | cons z l ih =>
    obtain ⟨h1, h2⟩ := ih (lesser m z)
    have e : leastFrom m (z :: l) = leastFrom (lesser m z) l := rfl
    have h3 : key (lesser m z) ≤ key m ∧ key (lesser m z) ≤ key z := by
      unfold lesser
      by_cases c : below z m = true
      · rw [if_pos c]; have := below_iff.1 c; omega
      · rw [if_neg c]; have := below_off.1 (by simpa using c); omega
    rw [e]
    refine ⟨by omega, fun x hx => ?_⟩
    rcases List.mem_cons.1 hx with rfl | hx
    · omega
    · exact h2 x hx
theorem from_mem (m : Nat) (l : List Nat) : leastFrom m l = m ∨ leastFrom m l ∈ l := by
  induction l generalizing m with
  | nil => exact .inl rfl
  | cons z l ih =>
    have e : leastFrom m (z :: l) = leastFrom (lesser m z) l := rfl
    rw [e]
    rcases ih (lesser m z) with h | h
    · rw [h]
      unfold lesser
      by_cases c : below z m = true
      · rw [if_pos c]; exact .inr (by simp)
      · rw [if_neg c]; exact .inl rfl
    · exact .inr (List.mem_cons_of_mem _ h)
theorem least_le {xs : List Nat} {x : Nat} (hx : x ∈ xs) : below x (leastL xs) = false := by
  cases xs with
  | nil => simp at hx
  | cons z l =>
    have h := from_le z l
    refine below_off.2 ?_
    show key (leastFrom z l) ≤ key x
    rcases List.mem_cons.1 hx with rfl | hx
    · exact h.1
    · exact h.2 x hx
theorem least_mem {xs : List Nat} (h : xs ≠ []) : leastL xs ∈ xs := by
  cases xs with
  | nil => exact absurd rfl h
  | cons z l =>
    rcases from_mem z l with e | e
    · show leastFrom z l ∈ z :: l
      rw [e]; simp
    · exact List.mem_cons_of_mem _ e
theorem same_self (x : Nat) : same x x = true := by simp [same]
/-- Found among the first k. -/
def found (xs : List Nat) (m k : Nat) : Bool := xs.length == 0 || (xs.take k).any (same · m)
theorem found_zero (xs : List Nat) (m : Nat) : found xs m 0 = (((xs.length : Nat) : Int) == 0) := by
  unfold found
  rw [cast_beq]
  simp
theorem found_next {xs : List Nat} {m k x : Nat} (hx : xs[k]? = some x) : found xs m (k + 1) = (found xs m k || same x m) := by
  unfold found
  rw [List.take_add_one, hx]
  simp [Bool.or_assoc]
theorem found_all {xs : List Nat} {n : Nat} (hn : xs.length = n) : found xs (leastL xs) n = true := by
  unfold found
  by_cases h : xs = []
  · subst h; rfl
  · rw [List.take_of_length_le (by omega)]
    have : xs.any (same · (leastL xs)) = true := List.any_eq_true.2 ⟨leastL xs, least_mem h, same_self _⟩
    rw [this]; simp
theorem least_fit {w : World} {B n : Nat} {a : Option Addr} {xs : List Nat} (h : Floats w B a n xs) : leastL xs < 18446744073709551616 := by
  by_cases e : xs = []
  · subst e; decide
  · exact h.2.2.1 _ (least_mem e)

/-! ### The walk -/
theorem walk (al : Option Addr) (ll cl : Nat) (l : List Nat) (w : World) (hl : Floats w w.heap.size al ll l) (hcl : ll ≤ cl) :
    Calls Try.prog 6 #[.slice al ll cl] w fun e w' => e = .returned (.bool true) ∧ Below w.heap.size w w' := by
  have hmax := hl.max
  have HL := Lib.hid hl.len
  go_enter Try.func6, Try.ntmps6
  go_wp2_with fail
  refine (awake04_any w).mono ?_
  rintro e w' ⟨rfl, hb⟩
  by_cases h40 : 40 < ll
  · have d : decide ((40 : Int) < (ll : Int)) = true := by simp; omega
    go_wp2
    go_ret
    exact ⟨rfl, hb⟩
  · have d : decide ((40 : Int) < (ll : Int)) = false := by simp; omega
    have hF := hl.on hb
    have HF := Lib.hid hF
    go_wp2_with fail
    refine (least_any al ll cl l _ _ hF hcl).mono ?_
    rintro e w1 ⟨rfl, d1, rfl⟩
    generalize hm : leastL l = m at *
    have HM := Lib.hid hm
    have h0 := found_zero l m
    rw [HL.out] at h0
    clear hF hm
    go_wp2
    go_loop [5, 6] (fun f i => ∃ k : Nat, k ≤ ll ∧ i = .int .i64 k ∧ f = .bool (found l m k)) (fun _ i => ll - (intOf i).toNat)
    case atStart => exact ⟨0, Nat.zero_le _, rfl, by rw [h0]⟩
    case round =>
      obtain ⟨k, hk, rfl, rfl⟩ := hrel
      by_cases hlt : k < ll
      · obtain ⟨x, hx, x1⟩ := HF.out.at_ hlt
        obtain ⟨b, o, rfl, hbb, hc⟩ := HF.out.head (by omega)
        have hcell : (w'.drewN d1).cell? ⟨b, o + k, none⟩ = some (.float .f64 x) := hc k x hx
        have HX := Lib.hid hx
        have hq : below x m = false := by rw [← HM.out]; exact least_le (List.mem_of_getElem? hx)
        have hn := found_next (m := m) hx
        have HN := Lib.hid hn
        clear hc hx hn
        cases hf : found l m k
        · rw [hf] at HN
          go_wp2_with (first
            | (go_at_call 13; refine (below_any _ _ _).mono ?_; rw [hq]; rintro e w1 ⟨rfl, rfl⟩)
            | (go_at_call 10; refine (same_any _ _ _).mono ?_; rintro e w1 ⟨rfl, rfl⟩))
          go_round
          case rel => exact ⟨k + 1, by omega, by go_num, by rw [HN.out, Bool.false_or]⟩
          case measure => simp [intOf]; omega
        · rw [hf] at HN
          go_wp2_with (first
            | (go_at_call 13; refine (below_any _ _ _).mono ?_; rw [hq]; rintro e w1 ⟨rfl, rfl⟩)
            | (go_at_call 10; refine (same_any _ _ _).mono ?_; rintro e w1 ⟨rfl, rfl⟩))
          go_round
          case rel => exact ⟨k + 1, by omega, by go_num, by rw [HN.out, Bool.true_or]⟩
          case measure => simp [intOf]; omega
      · have e : k = ll := by omega
        subst e
        have hf : found l m k = true := by rw [← HM.out]; exact found_all HL.out
        have hs := same_self m
        go_wp2_with fail
        refine (refLeast_any al k cl l _ _ (HF.out.drewN d1)).mono ?_
        rw [HM.out]
        rintro e w1 ⟨rfl, d2, rfl⟩
        go_wp2_with fail
        refine (same_any m m _).mono ?_
        rw [hs]
        rintro e w1 ⟨rfl, rfl⟩
        go_wp2
        go_ret
        exact ⟨rfl, belowN hb _⟩

/-! ### The frame of the row -/
set_option maxRecDepth 100000 in
theorem lifted (os : Os) (started : os.Started) (H : Type) (enc : TypeId × Value → H) :
    ReturnsInHanded {} Try.checked os 6 .any (Rows.ratioLeastSpec.pre6 enc Try.prog Try.f6 Rows.ratioLeastRow.domain false) (Rows.ratioLeastSpec.post enc Try.prog Try.f6 false true false false) := by
  refine returnsInHanded_of_change (C := Try.checked) own started (by kernel_rfl) Try.func6
    (ChangeSpec.witness6 (enc := enc) (C := Try.checked) false ⟨#[], #[.slice none 0 0], []⟩ 8 (by kernel_rfl) (by kernel_rfl) (by kernel_rfl) (by kernel_rfl)) ?_
  intro W base args ds gs before hval0 hW hcnd _
  have hval : ∀ (j : Nat) t v, Try.f6.params[j]? = some t → args[j]? = some v → Value.okWide Try.prog W .any base t v := hval0
  have hW' := hW
  obtain ⟨p, q, hA0, hV, rfl, hfz, hnd⟩ := hW
  have hA : DataW.TrodAll enc Try.prog W 0 (fun _ => true) true Try.f6.params.toList args.toList ds p := hA0
  rw [Try.params6] at hA hval
  obtain ⟨v0, vs0, d0, ds0, p0, q0, hargs, rfl, rfl, h0, r0⟩ := trodAll_cons hA
  obtain ⟨rfl, rfl, rfl⟩ := trodAll_nil r0
  obtain rfl : args = #[v0] := by cases args; simp_all
  obtain ⟨rfl, rfl⟩ := trodVars_none hV
  have k0 := h0
  have lt0 : ∀ x ∈ p0, x.block < W.heap.size := by obtain ⟨m, hm⟩ := k0; exact DataW.trod_lt m _ _ _ hm
  obtain ⟨al, ll, cl, rfl⟩ := okWide_slice Try.underlying29 (hval 0 29 v0 rfl rfl)
  obtain ⟨l, hcl, hl⟩ : ∃ xs, ll ≤ cl ∧ Floats W W.heap.size al ll xs := by
    obtain ⟨fuel, hf⟩ := h0
    obtain ⟨a, l, c, xs, e, hl, hi⟩ := floats_field (by simpa [Value.cells] using hf)
    injection e with e1 e2 e3
    subst e1 e2 e3
    exact ⟨xs, hl, hi⟩
  clear hA0 hval0
  refine (walk al ll cl l W hl hcl).mono fun e W' ⟨he, bel⟩ => ?_
  subst he
  exact ⟨_, rfl, _, _, _, [], _, [], hW', trodAll_mk1 (shut_bool Try.underlying4 _), (trodAll_cons_mk (Below.trod laidOut (by kernel_rfl) (of_decide_eq_true (by kernel_rfl)) k0 bel lt0) trodAll_mk0), rfl, bel.frame _, fun h => by cases h⟩

theorem over : Rows.ratioLeastRow.holds Try.pinned (OpenSpec.ofChange Rows.ratioLeastSpec) :=
  OpenClaim.holds_of_wide 6 Try.f6 rfl rfl rfl rfl rfl rfl rfl ⟨rfl, rfl, rfl, rfl, rfl⟩ rfl rfl rfl rfl rfl (by kernel_rfl) Try.func6 (by kernel_rfl)
    (of_decide_eq_true (by kernel_rfl)) (by unfold Func.isWrapper; first | (rw [if_pos (by decide +kernel)]; kernel_rfl) | (rw [if_neg (by decide +kernel)]; exact ⟨rfl, rfl⟩))
    (fun os started H enc _ => lifted os started H enc)

theorem proved : Rows.RatioLeastSaid := over
#print axioms proved
end Go.Proofs.Ytohdhndjbpfliaa.ratioLeast
