import Derived.Test.YtfkegbipfekbdaaZPgBits
import Derived.OwnWalk
import Derived.WalkMore
import Derived.Deep.LoopGhost
/-
  Package bits: New, Set.
-/
namespace Go.Proofs.Ytfkegbipfekbdaa.Pg
open Go.ChangeShapes Go.WideShapes Go.ChangeAt Go.RowKit
set_option maxRecDepth 100000

/-- What New answers: so many places, none of them set. -/
def NewEnds (n : Int) (w : World) (e : Ending) (w' : World) : Prop :=
  e = .returned (.tuple #[.pointer (some ⟨w.heap.size, 0, none⟩), .int .i64 0]) ∧ Bm w' w.heap.size (List.replicate n.toNat false) ∧ Below w.heap.size w w' ∧ w.heap.size < w'.heap.size
theorem new_bad (n : Int) (h : n < 1 ∨ 512 < n) (w : World) :
    Calls Try.prog 77 #[.int .i64 n] w fun e w' => e = .returned (.tuple #[.pointer none, .int .i64 1]) ∧ w = w' := by
  by_cases h1 : n < 1
  · have d1 : decide (n < 1) = true := decide_eq_true h1
    go_enter Try.func77, Try.ntmps77
    go_wp2
    go_ret2
    exact ⟨rfl, rfl⟩
  · have d1 : decide (n < 1) = false := decide_eq_false h1
    have d2 : decide (512 < n) = true := decide_eq_true (by omega)
    go_enter Try.func77, Try.ntmps77
    go_wp2
    go_ret2
    exact ⟨rfl, rfl⟩
theorem bt_none (n k : Nat) : bt (List.replicate n false) k = false := by
  unfold bt
  rw [List.getElem?_replicate]
  split <;> rfl
theorem new_ok (n : Int) (h1 : 1 ≤ n) (h2 : n ≤ 512) (w : World) : Calls Try.prog 77 #[.int .i64 n] w (NewEnds n w) := by
  have d1 : decide (n < 1) = false := decide_eq_false (by omega)
  have d2 : decide (512 < n) = false := decide_eq_false (by omega)
  go_enter Try.func77, Try.ntmps77
  go_wp2
  go_ret2
  refine ⟨rfl, ⟨fun _ => 0, fun k hk => ?_, ?_, fun k hk => ?_, fun k hk => ⟨by omega, fun i hi => by rw [bt_none]; simp⟩, by rw [List.length_replicate]; omega, by rw [List.length_replicate]; omega⟩, below1 w _, by simp⟩
  · rcases (by omega : k = 0 ∨ k = 1 ∨ k = 2 ∨ k = 3 ∨ k = 4 ∨ k = 5 ∨ k = 6 ∨ k = 7) with rfl | rfl | rfl | rfl | rfl | rfl | rfl | rfl <;> simp
  · rw [List.length_replicate, Int.toNat_of_nonneg (by omega)]; simp
  · simp

section
variable {w : World} {p : Nat} {L : List Bool}
theorem set_nil (n : Int) (b : Bool) (w : World) : Calls Try.prog 99 #[.pointer none, .int .i64 n, .bool b] w (R1 1 w) := by
  go_enter Try.func99, Try.ntmps99
  go_wp2_with fail
  refine (may_nil n w).mono ?_
  rintro e w' ⟨rfl, rfl⟩
  go_wp2
  go_ret
  exact ⟨rfl, rfl⟩
theorem set_off (h : Bm w p L) (n : Int) (hn : inB L n = false) (b : Bool) : Calls Try.prog 99 #[.pointer (some ⟨p, 0, none⟩), .int .i64 n, .bool b] w (R1 1 w) := by
  have HM := Lib.hid (may_any h n)
  rw [hn] at HM
  clear h hn
  go_enter Try.func99, Try.ntmps99
  go_wp2_with fail
  refine HM.out.mono ?_
  rintro e w' ⟨rfl, rfl⟩
  go_wp2
  go_ret
  exact ⟨rfl, rfl⟩
theorem set_same (h : Bm w p L) (k : Nat) (hk : k < L.length) : Calls Try.prog 99 #[.pointer (some ⟨p, 0, none⟩), .int .i64 (k : Int), .bool (bt L k)] w (RQ (if bt L k = true then 10 else 9) w) := by
  have HM := Lib.hid (may_any h (k : Int))
  rw [inB_nat hk] at HM
  have HH := Lib.hid (has_on h k hk)
  generalize bt L k = b at HH ⊢
  have HA := Lib.hid (already_any b)
  generalize (if b = true then (10 : Int) else 9) = z at HA ⊢
  have eb : (b == b) = true := by simp
  clear h hk
  go_enter Try.func99, Try.ntmps99
  go_wp2_with fail
  refine HM.out.mono ?_
  rintro e w' ⟨rfl, rfl⟩
  go_wp2_with fail
  refine HH.out.mono ?_
  rintro e w' ⟨rfl, d, rfl⟩
  go_wp2_with fail
  refine (HA.out _).mono ?_
  rintro e w' ⟨rfl, rfl⟩
  go_wp2
  go_ret
  exact ⟨rfl, _, rfl⟩
/-- A word that is another, all else as it was. -/
theorem Bw.set {W : Nat → Nat} (h : Bw w p W L) {k : Nat} (hk : k < L.length) {is : Bool} (hne : bt L k ≠ is) :
    Bw (w.setCell ⟨p, k / 64, none⟩ (.int .u64 ((W (k / 64) ^^^ 2 ^ (k % 64) : Nat) : Int))) p (fun n => if n = k / 64 then W n ^^^ 2 ^ (k % 64) else W n) (L.set k is) := by
  have l2 := h.l2
  have ek : k / 64 * 64 + k % 64 = k := by omega
  refine ⟨fun n hn => ?_, ?_, fun n hn => by simpa using h.f n hn, fun n hn => ?_, by rw [List.length_set]; exact h.l1, by rw [List.length_set]; exact h.l2⟩
  · by_cases e : n = k / 64
    · subst e
      rw [if_pos rfl]
      exact World.cell?_setCell_same w _ _ (h.c _ hn)
    · rw [if_neg e, World.cell?_setCell_other _ _ _ _ (by simp <;> omega)]
      exact h.c n hn
  · rw [List.length_set, World.cell?_setCell_other _ _ _ _ (by simp <;> omega)]
    exact h.m
  · by_cases e : n = k / 64
    · subst e
      rw [if_pos rfl]
      have := (h.wd (k / 64) hn).flip (i := k % 64) (Nat.mod_lt _ (by omega)) (by rw [ek]; exact hk) is (by rw [ek]; exact hne)
      rwa [ek] at this
    · rw [if_neg e]
      exact (h.wd n hn).apart hk is (by omega)
theorem set_flip (h : Bm w p L) (k : Nat) (hk : k < L.length) (is : Bool) (hne : bt L k ≠ is) : Calls Try.prog 99 #[.pointer (some ⟨p, 0, none⟩), .int .i64 (k : Int), .bool is] w fun e w' => e = .returned (.int .i64 0) ∧ Bm w' p (L.set k is) ∧ But (· = p) w w' := by
  have HM := Lib.hid (may_any h (k : Int))
  rw [inB_nat hk] at HM
  have HH := Lib.hid (has_on h k hk)
  have l2 := h.l2
  have HK := Lib.hid (fun u => mask_any k (by omega) u)
  have eb : (bt L k == is) = false := by simpa using hne
  obtain ⟨W, hw⟩ := h
  have H := Lib.hid (fun d => (hw.but ((But.refl (fun _ => False) w).drewN d) id).set hk hne)
  have hc := hw.c (k / 64) (by omega)
  have hf := hw.f (k / 64) (by omega)
  have ex := bits_xor_u64_nat (W (k / 64)) (2 ^ (k % 64)) (hw.wd _ (by omega)).1 (pow_fit (Nat.mod_lt _ (by omega)))
  generalize hy : (W (k / 64) ^^^ 2 ^ (k % 64) : Nat) = y at ex H
  have HY := Lib.hid hy
  clear hy
  generalize (2 ^ (k % 64) : Nat) = z at ex HK H HY
  generalize hx : W (k / 64) = x at ex hc
  generalize bt L k = b at eb HH
  have hk2 : k < 512 := by omega
  have t1 : (k : Int) / 64 = ((k / 64 : Nat) : Int) := by omega
  have t2 : (k : Int).tdiv 64 = ((k / 64 : Nat) : Int) := by rw [Int.tdiv_eq_ediv_of_nonneg (by omega), t1]
  have tn : ¬ (64 : Int) = 0 := by omega
  have q8 : k / 64 < 8 := by omega
  generalize k / 64 = q at *
  have wq : IntKind.i64.wrap (q : Int) = (q : Int) := IntWalk.i64_in _ (by omega)
  clear hw hk l2 hne hx
  go_enter Try.func99, Try.ntmps99
  go_wp2_with fail
  refine HM.out.mono ?_
  rintro e w' ⟨rfl, rfl⟩
  go_wp2_with fail
  refine HH.out.mono ?_
  rintro e w' ⟨rfl, d, rfl⟩
  go_wp2_with fail
  go_region_with (go_at_call 102; refine (HK.out _).mono ?_; rintro e w' ⟨rfl, rfl⟩)
  all_goals
    go_wp2
    go_ret
    exact ⟨rfl, ⟨_, H.out _⟩, ((But.refl (· = p) w).drewN _).setCell (p := ⟨p, q, none⟩) (fun _ => rfl) _⟩
end

/-- How Set ends. -/
def SetEnds (p : Nat) (L : List Bool) (z : Int) (w : World) (e : Ending) (w' : World) : Prop := e = .returned (.int .i64 z) ∧ Bm w' p L ∧ But (· = p) w w'
section
variable {w : World} {p : Nat} {L : List Bool}
theorem set_any (h : Bm w p L) (at_ : Int) (is : Bool) : Calls Try.prog 99 #[.pointer (some ⟨p, 0, none⟩), .int .i64 at_, .bool is] w (SetEnds p (setL L at_ is) (setE L at_ is) w) := by
  cases q : inB L at_ with
  | false =>
    rw [(setL_off q).1, (setL_off q).2]
    exact (set_off h at_ q is).mono fun e w' ⟨he, hw⟩ => ⟨he, hw ▸ h, hw ▸ But.refl _ _⟩
  | true =>
    obtain ⟨k, rfl, hk⟩ := inB_in q
    by_cases e : bt L k = is
    · subst e
      rw [(setL_same hk).1, (setL_same hk).2]
      exact (set_same h k hk).mono fun e w' ⟨he, d, hw⟩ => ⟨he, hw ▸ h.drewN d, hw ▸ (But.refl _ _).drewN d⟩
    · rw [(setL_flip hk e).1, (setL_flip hk e).2]
      exact set_flip h k hk is e
end
end Go.Proofs.Ytfkegbipfekbdaa.Pg
/-
  Package bits: Low.
-/
namespace Go.Proofs.Ytfkegbipfekbdaa.Pg
open Go.ChangeShapes Go.WideShapes Go.ChangeAt Go.RowKit
set_option maxRecDepth 100000

/-- The eight words, as a value. -/
abbrev arr (W : Nat → Nat) : Value := .agg #[.int .u64 (W 0 : Int), .int .u64 (W 1 : Int), .int .u64 (W 2 : Int), .int .u64 (W 3 : Int), .int .u64 (W 4 : Int), .int .u64 (W 5 : Int), .int .u64 (W 6 : Int), .int .u64 (W 7 : Int)]
theorem arr_at (a0 a1 a2 a3 a4 a5 a6 a7 : Int) (n : Nat) (hn : n < 8) (W : Nat → Int) (e0 : W 0 = a0) (e1 : W 1 = a1) (e2 : W 2 = a2) (e3 : W 3 = a3) (e4 : W 4 = a4) (e5 : W 5 = a5) (e6 : W 6 = a6) (e7 : W 7 = a7) (w : World) :
    (Instr.index 136 (.agg #[.int .u64 a0, .int .u64 a1, .int .u64 a2, .int .u64 a3, .int .u64 a4, .int .u64 a5, .int .u64 a6, .int .u64 a7]) (.int .i64 (n : Int))).run Try.prog w = .ok (.int .u64 (W n)) w := by
  rcases (by omega : n = 0 ∨ n = 1 ∨ n = 2 ∨ n = 3 ∨ n = 4 ∨ n = 5 ∨ n = 6 ∨ n = 7) with rfl | rfl | rfl | rfl | rfl | rfl | rfl | rfl
  · rw [e0]; kernel_rfl
  · rw [e1]; kernel_rfl
  · rw [e2]; kernel_rfl
  · rw [e3]; kernel_rfl
  · rw [e4]; kernel_rfl
  · rw [e5]; kernel_rfl
  · rw [e6]; kernel_rfl
  · rw [e7]; kernel_rfl

theorem low_nil (w : World) : Calls Try.prog 98 #[.pointer none] w (R1 (-1) w) := by
  go_enter Try.func98, Try.ntmps98
  go_wp2
  go_step3
  go_wp2
  rw [Exit.noGoto_ret]
  go_ret
  exact ⟨rfl, rfl⟩
section
variable {w : World} {p : Nat} {L : List Bool}
set_option maxHeartbeats 1000000 in
set_option maxRecDepth 20000 in
theorem low_any (h : Bm w p L) : Calls Try.prog 98 #[.pointer (some ⟨p, 0, none⟩)] w (R1 (lowOf L) w) := by
  obtain ⟨W, h⟩ := h
  have HK := Lib.hid (fun n hn => mask_any n hn w)
  have c0 := h.c 0 (by omega)
  have c1 := h.c 1 (by omega)
  have c2 := h.c 2 (by omega)
  have c3 := h.c 3 (by omega)
  have c4 := h.c 4 (by omega)
  have c5 := h.c 5 (by omega)
  have c6 := h.c 6 (by omega)
  have c7 := h.c 7 (by omega)
  have cm := h.m
  have l2 := h.l2
  have HW := Lib.hid h.wd
  have HA := Lib.hid (fun n hn => arr_at (W 0) (W 1) (W 2) (W 3) (W 4) (W 5) (W 6) (W 7) n hn (fun n => (W n : Int)) rfl rfl rfl rfl rfl rfl rfl rfl w)
  clear h
  go_enter Try.func98, Try.ntmps98
  go_wp2
  go_step3
  go_wp2
  go_step3
  go_wp2
  generalize (W 0 : Int) = a0 at HA ⊢
  generalize (W 1 : Int) = a1 at HA ⊢
  generalize (W 2 : Int) = a2 at HA ⊢
  generalize (W 3 : Int) = a3 at HA ⊢
  generalize (W 4 : Int) = a4 at HA ⊢
  generalize (W 5 : Int) = a5 at HA ⊢
  generalize (W 6 : Int) = a6 at HA ⊢
  generalize (W 7 : Int) = a7 at HA ⊢
  clear c0 c1 c2 c3 c4 c5 c6 c7
  go_loopg [13] 8 (fun g s13 wx => ∃ n : Nat, n + g = 8 ∧ s13 = .int .i64 n ∧ Hid (∀ j, j < n * 64 → bt L j = true) ∧ wx = w)
  case atStart => exact ⟨0, by omega, rfl, Lib.hid (fun j hj => by omega), rfl⟩
  case round =>
    obtain ⟨n, hn, rfl, HB, rfl⟩ := hrel
    cases gk with
    | zero =>
      have dn : decide ((n : Int) < 8) = false := by simp; omega
      have E : Hid (lowOf L = -1) := Lib.hid (low_none fun j hj => HB.out j (by omega))
      go_wp2
      rw [E.out]
      try rw [Exit.noGoto_ret]
      go_ret
      exact ⟨rfl, rfl⟩
    | succ g =>
      have dn : decide ((n : Int) < 8) = true := by simp; omega
      have hr := HA.out n (by omega)
      go_wp2
      clear hr
      have HX := Lib.hid (HW.out n (by omega))
      generalize W n = x at HX ⊢
      go_loopg [17] 64 (fun g2 s17 wy => ∃ i : Nat, i + g2 = 64 ∧ s17 = .int .i64 i ∧ Hid (∀ j, j < n * 64 + i → bt L j = true) ∧ wy = wr)
      case atStart => exact ⟨0, by omega, rfl, HB, rfl⟩
      case round =>
        obtain ⟨i, hi, rfl, HI, rfl⟩ := hrel
        cases gk with
        | zero =>
          have di : decide ((i : Int) < 64) = false := by simp; omega
          go_wp2
          go_roundg g
          case measure => omega
          case rel => exact ⟨n + 1, by omega, by go_num, Lib.hid (fun j hj => HI.out j (by omega)), rfl⟩
        | succ g2 =>
          have di : decide ((i : Int) < 64) = true := by simp; omega
          by_cases hat : n * 64 + i = L.length
          · have da : ((n : Int) * 64 + (i : Int) == (L.length : Int)) = true := by simp; omega
            have E : Hid (lowOf L = -1) := Lib.hid (low_none fun j hj => HI.out j (by omega))
            go_wp2
            rw [E.out]
            try rw [Exit.noGoto_ret]
            go_ret
            exact ⟨rfl, rfl⟩
          · have da : ((n : Int) * 64 + (i : Int) == (L.length : Int)) = false := by simp; omega
            have hlt : n * 64 + i < L.length := by
              rcases Nat.lt_or_ge (n * 64 + i) L.length with q | q
              · exact q
              · have := bt_in (HI.out L.length (by omega)); omega
            obtain ⟨at_, hA⟩ : ∃ at_ : Nat, at_ = n * 64 + i := ⟨_, rfl⟩
            have K := HK.out at_ (by omega)
            have w1 : IntKind.i64.wrap ((n : Int) * 64) = (n : Int) * 64 := IntWalk.i64_in _ (by omega)
            have w2 : IntKind.i64.wrap ((n : Int) * 64 + (i : Int)) = (at_ : Int) := by rw [IntWalk.i64_in _ (by omega)]; omega
            have db : ((at_ : Int) == (L.length : Int)) = false := by simp; omega
            obtain ⟨ea, ez⟩ := and_word (k := at_) (by rw [show at_ / 64 = n by omega]; exact HX.out)
            have en : ((((x &&& 2 ^ (at_ % 64) : Nat) : Int)) == 0) = !(bt L at_) := by
              cases b : bt L at_
              · rw [ez.2 b]; rfl
              · have : (x &&& 2 ^ (at_ % 64) : Nat) ≠ 0 := fun q => by rw [ez.1 q] at b; cases b
                simp
                omega
            have HZ := Lib.hid hA
            have HT := Lib.hid hlt
            clear ez da hA hlt hat
            generalize (x &&& 2 ^ (at_ % 64) : Nat) = y at ea en
            generalize (2 ^ (at_ % 64) : Nat) = z at ea K
            have KK := Lib.hid K
            clear K
            cases b : bt L at_ with
            | false =>
              rw [b] at en
              have E : Hid (lowOf L = (at_ : Int)) := Lib.hid (low_at (by have := HT.out; have := HZ.out; omega) b fun j hj => HI.out j (by have := HZ.out; omega))
              clear b
              go_wp2_with fail
              refine KK.out.mono ?_
              rintro e w' ⟨rfl, rfl⟩
              go_wp2
              rw [E.out]
              try rw [Exit.noGoto_ret]
              go_ret
              exact ⟨rfl, rfl⟩
            | true =>
              rw [b] at en
              have HN : Hid (∀ j, j < n * 64 + (i + 1) → bt L j = true) := Lib.hid (fun j hj => by
                by_cases q : j = at_
                · rw [q]; exact b
                · exact HI.out j (by have := HZ.out; omega))
              clear b
              go_wp2_with fail
              refine KK.out.mono ?_
              rintro e w' ⟨rfl, rfl⟩
              go_wp2
              go_roundg g2
              case measure => omega
              case rel => exact ⟨i + 1, by omega, by go_num, HN, rfl⟩
end
end Go.Proofs.Ytfkegbipfekbdaa.Pg
