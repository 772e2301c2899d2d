import Derived.Test.YtfkegbipfekbdaaZPgBitsLow
import Derived.Test.YtfkegbipfekbdaaZPgBits
import Derived.Maps.OwnSet
/-
  Package bits: High, Count.
-/
namespace Go.Proofs.Ytfkegbipfekbdaa.Pg
open Go.ChangeShapes Go.WideShapes Go.ChangeAt Go.RowKit
set_option maxRecDepth 100000

theorem high_nil (w : World) : Calls Try.prog 100 #[.pointer none] w (R1 (-1) w) := by
  go_enter Try.func100, Try.ntmps100
  go_wp2
  go_ret
  exact ⟨rfl, rfl⟩
theorem count_nil (w : World) : Calls Try.prog 106 #[.pointer none] w (R1 0 w) := by
  go_enter Try.func106, Try.ntmps106
  go_wp2
  go_ret
  exact ⟨rfl, rfl⟩
section
variable {w : World} {p : Nat} {L : List Bool} {W : Nat → Nat}
theorem words_off {n i : Nat} (h : ∀ n, n < 8 → Wd (W n) L (n * 64)) (l2 : L.length ≤ 512) (hW : ∀ m, n < m → m < 8 → W m = 0) (hx : W n < 2 ^ i) : ∀ j, n * 64 + i ≤ j → bt L j = false := by
  intro j hj
  rcases Nat.lt_or_ge j L.length with q | q
  · have e : j / 64 * 64 + j % 64 = j := by omega
    have hb := (h (j / 64) (by omega)).2 (j % 64) (Nat.mod_lt _ (by omega))
    rw [e] at hb
    rw [← hb]
    by_cases z : j / 64 = n
    · rw [z]
      exact bits_above hx (by omega)
    · rw [hW (j / 64) (by omega) (by omega)]
      simp
  · exact bt_out q
set_option maxHeartbeats 1000000 in
set_option maxRecDepth 20000 in
theorem high_any (h : Bm w p L) : Calls Try.prog 100 #[.pointer (some ⟨p, 0, none⟩)] w (R1 (highOf L) w) := by
  obtain ⟨W, h⟩ := h
  have l2 := h.l2
  have HW := Lib.hid h.wd
  have HC := Lib.hid h.c
  clear h
  go_enter Try.func100, Try.ntmps100
  go_wp2
  go_loopg [3] 8 (fun g s3 wx => ∃ z : Int, g ≤ 8 ∧ z = (g : Int) - 1 ∧ s3 = .int .i64 z ∧ Hid (∀ m, g ≤ m → m < 8 → W m = 0) ∧ wx = w)
  case atStart => exact ⟨7, by omega, rfl, rfl, Lib.hid (fun j h1 h2 => by omega), rfl⟩
  case round =>
    obtain ⟨z, hg, hz, rfl, HB, rfl⟩ := hrel
    cases gk with
    | zero =>
      have dn : decide ((0 : Int) ≤ z) = false := by simp; omega
      have E : Hid (highOf L = -1) := Lib.hid (high_none fun j => words_off (n := 0) (i := 0) HW.out l2 (fun m _ h8 => HB.out m (by omega) h8) (by rw [HB.out 0 (by omega) (by omega)]; omega) j (by omega))
      go_wp2
      rw [E.out]
      go_ret
      exact ⟨rfl, rfl⟩
    | succ g =>
      obtain rfl : z = (g : Int) := by omega
      clear hz
      have g8 : g < 8 := by omega
      have dn : decide ((0 : Int) ≤ (g : Int)) = true := by simp
      have hc := HC.out g (by omega)
      have HX := Lib.hid (HW.out g (by omega)).1
      go_wp2
      go_loopg [4] 64 (fun g2 s4 wy => ∃ y : Int, g2 ≤ 64 ∧ y = (g2 : Int) - 1 ∧ s4 = .int .i64 y ∧ Hid (W g < 2 ^ g2) ∧ wy = wr)
      case atStart => exact ⟨63, by omega, rfl, rfl, Lib.hid HX.out, rfl⟩
      case round =>
        obtain ⟨y, h2, hy, rfl, HI, rfl⟩ := hrel
        cases gk with
        | zero =>
          have di : decide ((0 : Int) ≤ y) = false := by simp; omega
          have HN : Hid (∀ m, g ≤ m → m < 8 → W m = 0) := Lib.hid (fun m h1 h8 => by
            by_cases q : m = g
            · have := HI.out; rw [q]; simp at this; exact this
            · exact HB.out m (by omega) h8)
          go_wp2
          go_roundg g
          case measure => omega
          case rel => exact ⟨(g : Int) - 1, by omega, rfl, by go_num, HN, rfl⟩
        | succ i =>
          obtain rfl : y = (i : Int) := by omega
          clear hy
          have di : decide ((0 : Int) ≤ (i : Int)) = true := by simp
          have ht := top_bit HI.out
          have hs : ((W g : Int) / 2 ^ i) = ((W g / 2 ^ i : Nat) : Int) := by simp
          have hb := (HW.out g g8).2 i (by omega)
          rw [hb] at ht
          cases b : bt L (g * 64 + i) with
          | false =>
            rw [b] at ht
            have en : (((W g : Int) / 2 ^ i) != 0) = false := by rw [hs, ht]; rfl
            have HN : Hid (W g < 2 ^ i) := Lib.hid (by
              rcases Nat.lt_or_ge (W g) (2 ^ i) with q | q
              · exact q
              · have := Nat.div_pos q (Nat.two_pow_pos i); simp at ht; omega)
            clear b hb ht hs
            go_wp2
            go_roundg i
            case measure => omega
            case rel => exact ⟨(i : Int) - 1, by omega, rfl, by go_num, HN, rfl⟩
          | true =>
            rw [b] at ht
            have en : (((W g : Int) / 2 ^ i) != 0) = true := by rw [hs, ht]; rfl
            have E : Hid (highOf L = (g : Int) * 64 + (i : Int)) := Lib.hid (by
              have := high_at b (fun j hj => words_off (n := g) (i := i + 1) HW.out l2 (fun m h1 h8 => HB.out m (by omega) h8) HI.out j (by omega))
              rw [this]; omega)
            clear b hb ht hs
            go_wp2
            rw [E.out]
            go_ret
            exact ⟨rfl, rfl⟩
end
end Go.Proofs.Ytfkegbipfekbdaa.Pg
/-
  Package bits: Count.
-/
namespace Go.Proofs.Ytfkegbipfekbdaa.Pg
open Go.ChangeShapes Go.WideShapes Go.ChangeAt Go.RowKit
set_option maxRecDepth 100000
section
variable {w : World} {p : Nat} {L : List Bool}
set_option maxHeartbeats 1000000 in
set_option maxRecDepth 20000 in
theorem count_any (h : Bm w p L) : Calls Try.prog 106 #[.pointer (some ⟨p, 0, none⟩)] w (R1 ((L.count true : Nat) : Int) w) := by
  obtain ⟨W, h⟩ := h
  have c0 := h.c 0 (by omega)
  have c1 := h.c 1 (by omega)
  have c2 := h.c 2 (by omega)
  have c3 := h.c 3 (by omega)
  have c4 := h.c 4 (by omega)
  have c5 := h.c 5 (by omega)
  have c6 := h.c 6 (by omega)
  have c7 := h.c 7 (by omega)
  have HE : Hid (cntOf L 0 512 = L.count true) := Lib.hid (cnt_all h.l2)
  have HW := Lib.hid h.wd
  have HA := Lib.hid (fun n hn => arr_at (W 0) (W 1) (W 2) (W 3) (W 4) (W 5) (W 6) (W 7) n hn (fun n => (W n : Int)) rfl rfl rfl rfl rfl rfl rfl rfl w)
  clear h
  go_enter Try.func106, Try.ntmps106
  go_wp2
  generalize (W 0 : Int) = a0 at HA ⊢
  generalize (W 1 : Int) = a1 at HA ⊢
  generalize (W 2 : Int) = a2 at HA ⊢
  generalize (W 3 : Int) = a3 at HA ⊢
  generalize (W 4 : Int) = a4 at HA ⊢
  generalize (W 5 : Int) = a5 at HA ⊢
  generalize (W 6 : Int) = a6 at HA ⊢
  generalize (W 7 : Int) = a7 at HA ⊢
  clear c0 c1 c2 c3 c4 c5 c6 c7
  go_loopg [3, 12] 8 (fun g s3 s12 wx => ∃ n c : Nat, n + g = 8 ∧ s12 = .int .i64 n ∧ s3 = .int .i64 c ∧ Hid (c = cntOf L 0 (n * 64)) ∧ wx = w)
  case atStart => exact ⟨0, 0, by omega, rfl, rfl, Lib.hid (by simp [cntOf]), rfl⟩
  case round =>
    obtain ⟨n, c, hn, rfl, rfl, HB, rfl⟩ := hrel
    cases gk with
    | zero =>
      have dn : decide ((n : Int) < 8) = false := by simp; omega
      have E : Hid (L.count true = c) := Lib.hid (by rw [HB.out, ← HE.out, show n = 8 by omega])
      go_wp2
      rw [E.out]
      go_ret
      exact ⟨rfl, rfl⟩
    | succ g =>
      have dn : decide ((n : Int) < 8) = true := by simp; omega
      have hr := HA.out n (by omega)
      go_wp2
      clear hr
      have HX := Lib.hid (HW.out n (by omega))
      have HS : Hid (c + pc 64 (W n) = cntOf L 0 ((n + 1) * 64) ∧ c ≤ 512) := Lib.hid (by
        have h1 := HX.out.pc
        have h2 := cnt_split L 0 (n * 64) 64
        have h3 := cnt_le L 0 (n * 64)
        have h4 := HB.out
        rw [Nat.zero_add] at h2
        rw [h1, h4, show (n + 1) * 64 = n * 64 + 64 by omega, h2]
        omega)
      generalize hx : W n = x at HX HS ⊢
      clear hx
      go_loopg [3, 5] x (fun g2 s3 s5 wy => ∃ d : Nat, s5 = .int .u64 (g2 : Int) ∧ s3 = .int .i64 d ∧ g2 < 18446744073709551616 ∧ Hid (d + pc 64 g2 = cntOf L 0 ((n + 1) * 64)) ∧ d ≤ 600 ∧ wy = wr)
      case atStart => exact ⟨c, rfl, rfl, HX.out.1, Lib.hid HS.out.1, by have := HS.out.2; omega, rfl⟩
      case round =>
        obtain ⟨d, rfl, rfl, hlt, HI, hd, rfl⟩ := hrel
        by_cases h0 : gk = 0
        · subst h0
          have HN : Hid (d = cntOf L 0 ((n + 1) * 64)) := Lib.hid (by have := HI.out; rw [pc_zero] at this; exact this)
          go_wp2
          go_roundg g
          case measure => omega
          case rel => exact ⟨n + 1, d, by omega, by go_num, rfl, HN, rfl⟩
        · have en : ((gk : Int) != 0) = true := by simp; omega
          have wx : IntKind.u64.wrap ((gk : Int) - 1) = ((gk - 1 : Nat) : Int) := by rw [IntKind.wrap_u64]; omega
          have ea := bits_and_u64_nat gk (gk - 1) hlt (by omega)
          have HP : Hid (pc 64 (gk &&& (gk - 1)) + 1 = pc 64 gk) := Lib.hid (pc_pred 64 gk hlt h0)
          have HL : Hid ((gk &&& (gk - 1)) < gk) := Lib.hid (and_pred_lt h0)
          have HQ : Hid (d + 1 ≤ 512) := Lib.hid (by have h1 := HI.out; have h2 := HP.out; have h3 := cnt_le L 0 ((n + 1) * 64); omega)
          generalize gk &&& (gk - 1) = y at ea HP HL
          generalize gk - 1 = v at wx ea
          go_wp2
          go_roundg y
          case measure => have := HL.out; omega
          case rel => exact ⟨d + 1, rfl, by go_num, by have := HL.out; omega, Lib.hid (by have := HP.out; have := HI.out; omega), by have := HQ.out; omega, rfl⟩
end
end Go.Proofs.Ytfkegbipfekbdaa.Pg
/-
  Package page, its ground: what a Page is in memory ('Pm'); its marks; Owner, Used, Full, Hole, Top.
-/
namespace Go.Proofs.Ytfkegbipfekbdaa.Pg
open Go.ChangeShapes Go.WideShapes Go.ChangeAt Go.RowKit
set_option maxRecDepth 100000
open Go.Maps (Keyed)

theorem intKeys : Keyed Try.prog 3 := Maps.int_keyed Try.underlying3
theorem zeroInt (w : World) : (zeroValue 3).run Try.prog w = .ok (.int .i64 0) w := by kernel_rfl
theorem wf64 {x : Int} (h : -9223372036854775808 ≤ x ∧ x ≤ 9223372036854775807) : (Lit.int .i64 x).wf = true := by
  simpa [Lit.wf, IntKind.min, IntKind.max, IntKind.signed, IntKind.bits] using h
theorem key64 {x : Int} (h : -9223372036854775808 ≤ x ∧ x ≤ 9223372036854775807) : keyOf Try.prog 3 (.int .i64 x) = some (.int .i64 x) := Maps.keyOf_int_mk Try.underlying3 (wf64 h)

/-- A map of ints, as what is told of its keys: which are there, and what stands at each. -/
structure Kept (D : DataW Unit) (X : List Int) : Prop where
  has : ∀ i : Int, Maps.has D (.int .i64 i) = (ownerOf X i != -1)
  at_ : ∀ i : Int, ownerOf X i ≠ -1 → D.atKey (.int .i64 i) (.lit (.int .i64 0)) = .lit (.int .i64 (ownerOf X i))
  size : Maps.size D = usedN X
/-- Block m is the map of the owners X. -/
def Om (w : World) (m : Nat) (X : List Int) : Prop := ∃ D : DataW Unit, w.ownsMap Try.prog 3 (plainElem Try.prog 3) m (usedN X) D ∧ Kept D X
/-- Block p is a Page: its places in block b, its owners in block m. -/
structure Pm (w : World) (p b m : Nat) (X : List Int) : Prop where
  c0 : w.cell? ⟨p, 0, none⟩ = some (.pointer (some ⟨b, 0, none⟩))
  c1 : w.cell? ⟨p, 1, none⟩ = some (.int .i64 (X.length : Int))
  c2 : w.cell? ⟨p, 2, none⟩ = some (.map (some m))
  bm : Bm w b (usedL X)
  om : Om w m X
  pn : Pn X
  pb : p ≠ b
  pm : p ≠ m
  ne : b ≠ m
section
variable {w w' : World} {p b m : Nat} {X : List Int} {S : Nat → Prop}
theorem Om.lt (h : Om w m X) : m < w.heap.size := by obtain ⟨D, h, _⟩ := h; exact h.lt
theorem Om.but (h : Om w m X) (hb : But S w w') (hn : ¬ S m) : Om w' m X := by
  have hl := h.lt
  obtain ⟨D, ⟨es, clock, he, r⟩, k⟩ := h
  exact ⟨D, ⟨es, clock, (hb.block m hl hn).trans he, r⟩, k⟩
theorem Pm.lt (h : Pm w p b m X) : p < w.heap.size := lt_of_cell (p := ⟨p, 0, none⟩) h.c0
theorem Pm.but (h : Pm w p b m X) (hb : But S w w') (hp : ¬ S p) (h1 : ¬ S b) (h2 : ¬ S m) : Pm w' p b m X :=
  ⟨(hb.cell (p := ⟨p, 0, none⟩) h.lt hp).trans h.c0, (hb.cell (p := ⟨p, 1, none⟩) h.lt hp).trans h.c1, (hb.cell (p := ⟨p, 2, none⟩) h.lt hp).trans h.c2, h.bm.but hb h1, h.om.but hb h2, h.pn, h.pb, h.pm, h.ne⟩
theorem Pm.below (h : Pm w p b m X) (hb : Below w.heap.size w w') : Pm w' p b m X := h.but (Below.but hb fun _ => False) id id id
theorem Pm.l1 (h : Pm w p b m X) : 1 ≤ X.length := by have := h.bm.l1; rwa [used_len] at this
theorem Pm.l2 (h : Pm w p b m X) : X.length ≤ 512 := by have := h.bm.l2; rwa [used_len] at this
end

/-! ### The marks -/
section
variable {w : World} {b : Nat} {L : List Bool} {n : Int}
theorem least_any (h : Bm w b L) : Calls Try.prog 87 #[.agg #[.pointer (some ⟨b, 0, none⟩), .int .i64 n]] w (IB (lowOf L) w) := by
  have H := Lib.hid (fun o => low_any (h.below (below1 w o)))
  clear h
  go_enter Try.func87, Try.ntmps87
  go_wp2_with fail
  refine (H.out _).mono ?_
  rintro e w' ⟨rfl, rfl⟩
  go_wp2
  go_ret
  exact ⟨rfl, below1 w _⟩
theorem great_any (h : Bm w b L) : Calls Try.prog 91 #[.agg #[.pointer (some ⟨b, 0, none⟩), .int .i64 n]] w (IB (highOf L) w) := by
  have H := Lib.hid (fun o => high_any (h.below (below1 w o)))
  clear h
  go_enter Try.func91, Try.ntmps91
  go_wp2_with fail
  refine (H.out _).mono ?_
  rintro e w' ⟨rfl, rfl⟩
  go_wp2
  go_ret
  exact ⟨rfl, below1 w _⟩
theorem taken_any (h : Bm w b L) : Calls Try.prog 101 #[.agg #[.pointer (some ⟨b, 0, none⟩), .int .i64 n]] w (IB ((L.count true : Nat) : Int) w) := by
  have H := Lib.hid (fun o => count_any (h.below (below1 w o)))
  clear h
  go_enter Try.func101, Try.ntmps101
  go_wp2_with fail
  refine (H.out _).mono ?_
  rintro e w' ⟨rfl, rfl⟩
  go_wp2
  go_ret
  exact ⟨rfl, below1 w _⟩
theorem mark_any (h : Bm w b L) (at_ : Int) (is : Bool) : Calls Try.prog 88 #[.agg #[.pointer (some ⟨b, 0, none⟩), .int .i64 n], .int .i64 at_, .bool is] w (SetEnds b (setL L at_ is) (setE L at_ is) w) := by
  have H := Lib.hid (fun o => set_any (h.below (below1 w o)) at_ is)
  generalize setE L at_ is = z at H ⊢
  generalize setL L at_ is = L' at H ⊢
  clear h
  go_enter Try.func88, Try.ntmps88
  go_wp2_with fail
  refine (H.out _).mono ?_
  rintro e w' ⟨rfl, r, hb⟩
  go_wp2
  go_ret
  exact ⟨rfl, r, ((But.refl _ w).alloc _).trans hb⟩
theorem markHas_any (at_ : Int) (k : Nat) (a : Value) (w : World) : Calls Try.prog 95 #[.agg #[a, .int .i64 (k : Int)], .int .i64 at_] w (BB (decide (0 ≤ at_) && decide (at_ < (k : Int))) w) := by
  go_enter Try.func95, Try.ntmps95
  go_wp2
  all_goals
    go_ret
    refine ⟨?_, below1 w _⟩
    first | (simp_all; done) | (simp_all; omega)
end

/-! ### What a Page tells -/
section
variable {w : World} {p b m : Nat} {X : List Int}
theorem hole_any (h : Pm w p b m X) : Calls Try.prog 69 #[.pointer (some ⟨p, 0, none⟩)] w (IB (holeOf X) w) := by
  have H := Lib.hid (least_any (n := (X.length : Int)) h.bm)
  have c0 := h.c0
  have c1 := h.c1
  unfold holeOf
  clear h
  go_enter Try.func69, Try.ntmps69
  go_wp2_with fail
  refine H.out.mono ?_
  rintro e w' ⟨rfl, hb⟩
  have HB := Lib.hid hb
  clear hb
  go_wp2
  go_ret
  exact ⟨rfl, HB.out⟩
theorem top_any (h : Pm w p b m X) : Calls Try.prog 68 #[.pointer (some ⟨p, 0, none⟩)] w (IB (topOf X) w) := by
  have H := Lib.hid (great_any (n := (X.length : Int)) h.bm)
  have c0 := h.c0
  have c1 := h.c1
  unfold topOf
  clear h
  go_enter Try.func68, Try.ntmps68
  go_wp2_with fail
  refine H.out.mono ?_
  rintro e w' ⟨rfl, hb⟩
  have HB := Lib.hid hb
  clear hb
  go_wp2
  go_ret
  exact ⟨rfl, HB.out⟩
theorem used_any (h : Pm w p b m X) : Calls Try.prog 94 #[.pointer (some ⟨p, 0, none⟩)] w (IB ((usedN X : Nat) : Int) w) := by
  have H := Lib.hid (taken_any (n := (X.length : Int)) h.bm)
  have c0 := h.c0
  have c1 := h.c1
  unfold usedN
  clear h
  go_enter Try.func94, Try.ntmps94
  go_wp2_with fail
  refine H.out.mono ?_
  rintro e w' ⟨rfl, hb⟩
  have HB := Lib.hid hb
  clear hb
  go_wp2
  go_ret
  exact ⟨rfl, HB.out⟩
theorem full_any (h : Pm w p b m X) : Calls Try.prog 63 #[.pointer (some ⟨p, 0, none⟩)] w (BB (holeOf X == -1) w) := by
  have H := Lib.hid (least_any (n := (X.length : Int)) h.bm)
  have c0 := h.c0
  have c1 := h.c1
  unfold holeOf
  clear h
  go_enter Try.func63, Try.ntmps63
  go_wp2_with fail
  refine H.out.mono ?_
  rintro e w' ⟨rfl, hb⟩
  have HB := Lib.hid hb
  clear hb
  go_wp2
  go_ret
  exact ⟨rfl, HB.out⟩
theorem owner_any (h : Pm w p b m X) (n : Int) (hn : -9223372036854775808 ≤ n ∧ n ≤ 9223372036854775807) : Calls Try.prog 76 #[.pointer (some ⟨p, 0, none⟩), .int .i64 n] w (R1 (ownerOf X n) w) := by
  obtain ⟨D, hown, hk⟩ := h.om
  have HO := Lib.hid hown
  have hkey := key64 hn
  have c2 := h.c2
  by_cases q : ownerOf X n = -1
  · have eh : Maps.has D (.int .i64 n) = false := by rw [hk.has, q]; rfl
    rw [q]
    clear h hn hk hown q
    go_enter Try.func76, Try.ntmps76
    go_wp2_with (at_lookup; refine wpList_lookup_own_ok_int _ rfl _ _ 114 rfl 3 3 .i64 intKeys Try.underlying114 Try.underlying3 (zeroInt _) m _ D rfl HO.out _ _ rfl hkey ?_; intro c hat hwc; rw [eh]; clear hat hwc)
    go_ret
    exact ⟨rfl, rfl⟩
  · have eh : Maps.has D (.int .i64 n) = true := by rw [hk.has]; simpa using q
    have ea := Lib.hid (hk.at_ n q)
    generalize ownerOf X n = z at ea ⊢
    clear h hn hk hown q
    go_enter Try.func76, Try.ntmps76
    go_wp2_with (at_lookup; refine wpList_lookup_own_ok_int _ rfl _ _ 114 rfl 3 3 .i64 intKeys Try.underlying114 Try.underlying3 (zeroInt _) m _ D rfl HO.out _ _ rfl hkey ?_; intro c hat hwc; rw [eh]; have ec : Hid (z = c) := Lib.hid (by have := ea.out.symm.trans hat; injection this with this; injection this); clear hat hwc)
    go_ret
    exact ⟨by rw [ec.out]; rfl, rfl⟩
end

/-! ### Of a Page that is nil -/
theorem hole_nil (w : World) : Calls Try.prog 69 #[.pointer none] w (R1 (-1) w) := by
  go_enter Try.func69, Try.ntmps69
  go_wp2
  go_ret
  exact ⟨rfl, rfl⟩
theorem top_nil (w : World) : Calls Try.prog 68 #[.pointer none] w (R1 (-1) w) := by
  go_enter Try.func68, Try.ntmps68
  go_wp2
  go_ret
  exact ⟨rfl, rfl⟩
theorem used_nil (w : World) : Calls Try.prog 94 #[.pointer none] w (R1 0 w) := by
  go_enter Try.func94, Try.ntmps94
  go_wp2
  go_ret
  exact ⟨rfl, rfl⟩
theorem full_nil (w : World) : Calls Try.prog 63 #[.pointer none] w (B1 false w) := by
  go_enter Try.func63, Try.ntmps63
  go_wp2
  go_ret
  exact ⟨rfl, rfl⟩
theorem owner_nil (n : Int) (w : World) : Calls Try.prog 76 #[.pointer none, .int .i64 n] w (R1 (-1) w) := by
  go_enter Try.func76, Try.ntmps76
  go_wp2
  go_ret
  exact ⟨rfl, rfl⟩
end Go.Proofs.Ytfkegbipfekbdaa.Pg
