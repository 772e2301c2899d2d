/-
  BitsBetween: all places below the least one that isn't set are set, none above the greatest one that is. No condition.
-/
import Derived.Test.YtbdjocoedcgfbaaRows
import Derived.WalkKit
import Derived.ProofKit
import Derived.OpenShut
import Derived.Test.YtbdjocoedcgfbaaBitsRun
import Derived.Test.YtbdjocoedcgfbaaWf
import Derived.ShutString
import Derived.ChangeOld
import Derived.Below
namespace Go.Proofs.Ytbdjocoedcgfbaa.bitsBetween
open Go.ChangeShapes Go.WideShapes Go.ChangeAt Go.RowKit
open Go.ChangeMaps (open_string shut_string)
set_option linter.unusedVariables false

theorem own : ownKnob Try.prog.godebug = none := by kernel_rfl
theorem laidOut : laidOutB Try.prog = true := by kernel_rfl

/-- What is known of the least place that isn't set; K, if there is none. -/
structure Fl (L : List Bool) (K : Nat) (z : Int) : Prop where
  z0 : 0 ≤ z
  z1 : z ≤ (K : Int)
  on : ∀ j : Nat, (j : Int) < z → bt L j = true
  off : ∀ j : Nat, (j : Int) = z → bt L j = false
/-- How far the acts have come. -/
structure Bq (w0 : World) (p K : Nat) (L : List Bool) (w : World) : Prop where
  below : Below w0.heap.size w0 w
  bm : Bm w p L
  len : L.length = K
theorem Bq.grow {w0 w w5 : World} {p K : Nat} {L : List Bool} (h : Bq w0 p K L w) (hb : Below w.heap.size w w5) : Bq w0 p K L w5 := ⟨belowT h.below hb, h.bm.below hb, h.len⟩
theorem Bq.next {w0 w w4 : World} {p K : Nat} {L L' : List Bool} (h : Bq w0 p K L w) (hp : w0.heap.size ≤ p) (r4 : Bm w4 p L') (b4 : But (· = p) w w4) (hl : L'.length = L.length) : Bq w0 p K L' w4 :=
  ⟨h.below.trans (b4.one h.below.size hp), r4, hl.trans h.len⟩
theorem has_nat (L : List Bool) (k : Nat) : hasOf L (k : Int) = bt L k := by
  unfold hasOf
  cases q : inB L (k : Int) with
  | true => rw [Int.toNat_natCast]; rfl
  | false =>
    have : L.length ≤ k := by simp [inB] at q; omega
    rw [bt_out this]; rfl
theorem has_minus (L : List Bool) : hasOf L (-1) = false := by simp [hasOf, inB]

/-! ### The walk -/
set_option maxRecDepth 20000 in
set_option maxHeartbeats 4000000 in
theorem walk (n : Int) (al : Option Addr) (ll cl : Nat) (l : List Ac) (w : World) (hn : (Lit.int .u8 n).wf = true) (hl : Acts w w.heap.size al ll l) (hcl : ll ≤ cl) :
    Calls Try.prog 6 #[.int .u8 n, .slice al ll cl] w fun e w' => e = .returned (.bool true) ∧ Below w.heap.size w w' := by
  have hmax := hl.max
  have A := Lib.hid (awake11_any w)
  have n12 := wfu8 hn
  obtain ⟨K, hK⟩ : ∃ K : Nat, 1 + n % 200 = (K : Int) := ⟨(1 + n % 200).toNat, by omega⟩
  have hK1 : 1 ≤ K := by omega
  have hK2 : K ≤ 200 := by omega
  have hm : n.tmod 200 = (K : Int) - 1 := by rw [Int.tmod_eq_emod_of_nonneg (by omega)]; omega
  have hm2 : n % 200 = (K : Int) - 1 := by omega
  have wK : IntKind.i64.wrap (1 + ((K : Int) - 1)) = (K : Int) := by rw [IntWalk.i64_in _ (by omega)]; omega
  have wn : IntKind.i64.wrap n = n := IntWalk.i64_in _ (by omega)
  have HN := Lib.hid (new_ok (K : Int) (by omega) (by omega))
  clear hK hn n12
  go_enter Try.func6, Try.ntmps6
  go_wp2_with fail
  refine A.out.mono ?_
  rintro e w0 ⟨rfl, h0⟩
  have H0 := Lib.hid h0
  clear h0
  by_cases hll : 60 < ll
  · have d1 : decide ((60 : Int) < (ll : Int)) = true := by simp; omega
    go_wp2
    go_ret
    exact ⟨rfl, H0.out⟩
  have d1 : decide ((60 : Int) < (ll : Int)) = false := by simp; omega
  go_wp2_with fail
  refine (HN.out w0).mono ?_
  rintro e w1 ⟨rfl, r1, b1, l1⟩
  rw [Int.toNat_natCast] at r1
  have B1 := Lib.hid (belowT H0.out b1)
  have R1' := Lib.hid r1
  have HP : Hid (w.heap.size ≤ w0.heap.size ∧ w0.heap.size < w1.heap.size) := Lib.hid ⟨H0.out.size, l1⟩
  clear r1 b1 HN A hm hm2 wK wn l1
  generalize w0.heap.size = p at R1' HP ⊢
  clear H0
  have S1 : Hid (Bq w p K (List.replicate K false) w1) := Lib.hid ⟨B1.out, R1'.out, by simp⟩
  clear R1' B1
  go_wp2
  go_loopw [9] (fun i wr => ∃ (k : Nat) (L : List Bool), k ≤ ll ∧ i = .int .i64 k ∧ Hid (Bq w p K L wr)) (fun i _ => ll - (intOf i).toNat)
  case atStart => exact ⟨0, _, by omega, rfl, S1⟩
  case round =>
    obtain ⟨k, L, hk, rfl, HS⟩ := hrel
    clear S1
    by_cases hlt : k < ll
    · have dk : decide ((k : Int) < (ll : Int)) = true := by simp; omega
      have U1 := Lib.hid (hl.below HS.out.below)
      obtain ⟨b0, o0, rfl, hb0, hc0⟩ := U1.out.head (by omega)
      obtain ⟨u, hu, _⟩ := U1.out.at_ hlt
      have kW : wr.cell? ⟨b0, o0 + k * 2, none⟩ = some (.int .i64 u.at_) ∧ wr.cell? ⟨b0, o0 + k * 2 + 1, none⟩ = some (.bool u.is) := ⟨hc0 k u hu 0 _ rfl, hc0 k u hu 1 _ rfl⟩
      have HB0 := Lib.hid hb0
      obtain ⟨at_, is⟩ := u
      simp only at kW
      have kD := keep2 (belowD (Below.refl w.heap.size wr)) hb0 kW
      have BD := belowD (Below.refl wr.heap.size wr)
      have HC : Hid (∀ v, Below wr.heap.size wr v → Calls Try.prog 11 #[.pointer (some ⟨p, 0, none⟩), .int .i64 at_, .bool is] v (SetEnds p (setL L at_ is) (setE L at_ is) v)) := Lib.hid (fun v hv => set_any (HS.out.grow hv).bm at_ is)
      clear hc0 hu hb0 U1
      have sz : w.heap.size ≤ wr.drew.heap.size := HS.out.below.size
      go_wp2_with fail
      go_region_held3 (fun w' => w'.cell? ⟨b0, o0 + k * 2, none⟩ = some (.int .i64 at_) ∧ w'.cell? ⟨b0, o0 + k * 2 + 1, none⟩ = some (.bool is))
        (first | with_reducible exact kD | with_reducible exact k4 | with_reducible exact kW | go_keep)
        ((go_at_call 11; refine (HC.out _ ?_).mono ?_; exact BD; rintro e w4 ⟨rfl, r4, b4⟩; have k4 := keep2 (b4.one sz HP.out.1) HB0.out kD))
      have SN := Lib.hid ((HS.out.grow BD).next HP.out.1 r4 b4 (length_setL at_ is))
      clear r4 b4 kD kW BD HS HC sz k4
      generalize setL L at_ is = L' at SN
      go_wp2
      go_roundw
      case rel => exact ⟨k + 1, L', by omega, by go_num, SN⟩
      case measure => simp [intOf]; omega
    · have dk : decide ((k : Int) < (ll : Int)) = false := by simp; omega
      have HLo := Lib.hid (low_any HS.out.bm)
      have HHi := Lib.hid (fun v (hv : Below wr.heap.size wr v) => high_any (HS.out.grow hv).bm)
      have HHa := Lib.hid (fun (j : Nat) v (hv : Below wr.heap.size wr v) => by have := has_any (HS.out.grow hv).bm (j : Int); rwa [has_nat] at this)
      have HHm := Lib.hid (fun v (hv : Below wr.heap.size wr v) => by have := has_any (HS.out.grow hv).bm (-1); rwa [has_minus] at this)
      have HB := Lib.hid HS.out.below
      have HL := Lib.hid HS.out.len
      have HO : Hid (bt L K = false) := Lib.hid (bt_out (Nat.le_of_eq HL.out))
      have HV : Hid ((highOf L = -1 ∨ ∃ i : Nat, highOf L = (i : Int) ∧ bt L i = true) ∧ ∀ j : Nat, highOf L < (j : Int) → bt L j = false) := Lib.hid (by
        rcases high_cases L with ⟨h1, h2⟩ | ⟨i, h1, h2, h3, h4⟩
        · exact ⟨Or.inl h1, fun j _ => h2 j⟩
        · exact ⟨Or.inr ⟨i, h1, h3⟩, fun j hj => h4 j (by omega)⟩)
      obtain ⟨lv, hlv⟩ : ∃ lv, lv = lowOf L := ⟨_, rfl⟩
      have HC : Hid ((lv = -1 ∧ Fl L K (K : Int)) ∨ ∃ q : Nat, lv = (q : Int) ∧ Fl L K (q : Int)) := Lib.hid (by
        rw [hlv]
        rcases low_cases L with ⟨h1, h2⟩ | ⟨i, h1, h2, h3, h4⟩
        · exact Or.inl ⟨h1, ⟨by omega, by omega, fun j hj => h2 j (by rw [HL.out]; omega), fun j hj => bt_out (by rw [HL.out]; omega)⟩⟩
        · exact Or.inr ⟨i, h1, ⟨by omega, by have := HL.out; omega, fun j hj => h4 j (by omega), fun j hj => by rw [show j = i by omega]; exact h3⟩⟩)
      rw [← hlv] at HLo
      generalize highOf L = hv at HHi HV
      clear hlv HS
      rcases HC.out with ⟨rfl, f0⟩ | ⟨q, rfl, f0⟩
      · have FL := Lib.hid f0
        clear f0 HC
        go_wp2_with fail
        refine HLo.out.mono ?_
        rintro e w3 ⟨rfl, rfl⟩
        clear HLo
        go_wp2
        obtain ⟨wo, hwo⟩ : ∃ wo : World, wo = wr := ⟨_, rfl⟩
        rw [← hwo] at HHi HHa HHm HB
        go_loopw [11] (fun i wx => ∃ j : Nat, j ≤ K ∧ i = .int .i64 j ∧ Hid (Below wo.heap.size wo wx)) (fun i _ => K - (intOf i).toNat)
        case atStart => exact ⟨0, by omega, rfl, Lib.hid (by rw [hwo]; exact Below.refl _ _)⟩
        case round =>
          obtain ⟨j, hj, rfl, HX⟩ := hrel
          clear hwo
          by_cases hjK : j < K
          · have dj : decide ((j : Int) < (K : Int)) = true := by simp; omega
            have C1 := Lib.hid (HHa.out j wr HX.out)
            have C2 := Lib.hid (fun d => HHi.out (wr.drewN d) (belowN HX.out d))
            have C3 := Lib.hid (fun d => HHa.out j (wr.drewN d) (belowN HX.out d))
            have C2' := Lib.hid (HHi.out wr HX.out)
            by_cases c1 : (j : Int) < (K : Int)
            · have d1 : decide ((j : Int) < (K : Int)) = true := decide_eq_true c1
              have on := FL.out.on j c1
              have e2 : ((j : Int) == (K : Int)) = false := by simp; omega
              have e3 : decide (hv < (j : Int)) = false := decide_eq_false (fun q => by rw [HV.out.2 j q] at on; cases on)
              rw [on] at C1
              clear on
              go_wp2_with fail
              refine C1.out.mono ?_
              rintro e w4 ⟨rfl, d, rfl⟩
              go_wp2_with fail
              refine (C2.out d).mono ?_
              rintro e w5 ⟨rfl, rfl⟩
              go_wp2
              go_roundw
              case rel => exact ⟨j + 1, by omega, by go_num, Lib.hid (belowN HX.out d)⟩
              case measure => simp [intOf]; omega
            · exact absurd (by omega) c1
          · have dj : decide ((j : Int) < (K : Int)) = false := by simp; omega
            have g0 : decide ((0 : Int) ≤ (K : Int)) = true := decide_eq_true FL.out.z0
            have g1 : decide ((K : Int) ≤ (K : Int)) = true := decide_eq_true FL.out.z1
            have C2' := Lib.hid (HHi.out wr HX.out)
            have C5 := Lib.hid (fun d => HHa.out K (wr.drewN d) (belowN HX.out d))
            rw [HO.out] at C5
            have C6 := Lib.hid (fun d => HHm.out (wr.drewN d) (belowN HX.out d))
            rcases HV.out.1 with hm | ⟨i, hi, on⟩
            · have e4 : (hv == -1) = true := by simp [hm]
              clear hm
              go_wp2_with fail
              refine C2'.out.mono ?_
              rintro e w5 ⟨rfl, rfl⟩
              go_wp2_with fail
              refine (C5.out 0).mono ?_
              rintro e w5 ⟨rfl, d, rfl⟩
              go_wp2_with fail
              refine (C6.out d).mono ?_
              rintro e w5 ⟨rfl, d2, rfl⟩
              go_wp2
              go_ret
              exact ⟨rfl, belowT HB.out (belowN HX.out _)⟩
            · have C4 := Lib.hid (HHa.out i wr HX.out)
              rw [on] at C4
              rw [hi] at C2'
              have e4 : ((i : Int) == -1) = false := by simp <;> omega
              clear hi on
              go_wp2_with fail
              refine C2'.out.mono ?_
              rintro e w5 ⟨rfl, rfl⟩
              go_wp2_with fail
              refine C2'.out.mono ?_
              rintro e w5 ⟨rfl, rfl⟩
              go_wp2_with fail
              refine C4.out.mono ?_
              rintro e w5 ⟨rfl, d, rfl⟩
              go_wp2_with fail
              refine (C5.out d).mono ?_
              rintro e w5 ⟨rfl, d2, rfl⟩
              go_wp2_with fail
              first | refine (C6.out (d + d2)).mono ?_ | skip
              rintro e w5 ⟨rfl, d3, rfl⟩
              go_wp2
              go_ret
              exact ⟨rfl, belowT HB.out (belowN HX.out _)⟩
      · have FL := Lib.hid f0
        clear f0 HC
        go_wp2_with fail
        refine HLo.out.mono ?_
        rintro e w3 ⟨rfl, rfl⟩
        clear HLo
        have eq1 : ((q : Int) == -1) = false := by simp <;> omega
        go_wp2
        obtain ⟨wo, hwo⟩ : ∃ wo : World, wo = wr := ⟨_, rfl⟩
        rw [← hwo] at HHi HHa HHm HB
        go_loopw [11] (fun i wx => ∃ j : Nat, j ≤ K ∧ i = .int .i64 j ∧ Hid (Below wo.heap.size wo wx)) (fun i _ => K - (intOf i).toNat)
        case atStart => exact ⟨0, by omega, rfl, Lib.hid (by rw [hwo]; exact Below.refl _ _)⟩
        case round =>
          obtain ⟨j, hj, rfl, HX⟩ := hrel
          clear hwo
          by_cases hjK : j < K
          · have dj : decide ((j : Int) < (K : Int)) = true := by simp; omega
            have C1 := Lib.hid (HHa.out j wr HX.out)
            have C2 := Lib.hid (fun d => HHi.out (wr.drewN d) (belowN HX.out d))
            have C3 := Lib.hid (fun d => HHa.out j (wr.drewN d) (belowN HX.out d))
            have C2' := Lib.hid (HHi.out wr HX.out)
            by_cases c1 : (j : Int) < (q : Int)
            · have d1 : decide ((j : Int) < (q : Int)) = true := decide_eq_true c1
              have on := FL.out.on j c1
              have e2 : ((j : Int) == (q : Int)) = false := by simp; omega
              have e3 : decide (hv < (j : Int)) = false := decide_eq_false (fun q => by rw [HV.out.2 j q] at on; cases on)
              rw [on] at C1
              clear on
              go_wp2_with fail
              refine C1.out.mono ?_
              rintro e w4 ⟨rfl, d, rfl⟩
              go_wp2_with fail
              refine (C2.out d).mono ?_
              rintro e w5 ⟨rfl, rfl⟩
              go_wp2
              go_roundw
              case rel => exact ⟨j + 1, by omega, by go_num, Lib.hid (belowN HX.out d)⟩
              case measure => simp [intOf]; omega
            · have d1 : decide ((j : Int) < (q : Int)) = false := decide_eq_false c1
              by_cases c2 : (j : Int) = (q : Int)
              · have off := FL.out.off j c2
                have e2 : ((j : Int) == (q : Int)) = true := by simp; omega
                have HC2 := Lib.hid c2
                rw [off] at C1 C3
                clear off c2
                by_cases c3 : hv < (j : Int)
                · have e3 : decide (hv < (j : Int)) = true := decide_eq_true c3
                  go_wp2_with fail
                  refine C1.out.mono ?_
                  rintro e w4 ⟨rfl, d, rfl⟩
                  go_wp2_with fail
                  refine (C2.out d).mono ?_
                  rintro e w5 ⟨rfl, rfl⟩
                  go_wp2_with fail
                  refine (C3.out d).mono ?_
                  rintro e w5 ⟨rfl, d2, rfl⟩
                  go_wp2
                  go_roundw
                  case rel => exact ⟨j + 1, by omega, by go_num, Lib.hid (belowN HX.out _)⟩
                  case measure => simp [intOf]; omega
                · have e3 : decide (hv < (j : Int)) = false := decide_eq_false c3
                  go_wp2_with fail
                  refine C1.out.mono ?_
                  rintro e w4 ⟨rfl, d, rfl⟩
                  go_wp2_with fail
                  refine (C2.out d).mono ?_
                  rintro e w5 ⟨rfl, rfl⟩
                  go_wp2
                  go_roundw
                  case rel => exact ⟨j + 1, by omega, by go_num, Lib.hid (belowN HX.out d)⟩
                  case measure => simp [intOf]; omega
              · have e2 : ((j : Int) == (q : Int)) = false := by simp; omega
                by_cases c3 : hv < (j : Int)
                · have e3 : decide (hv < (j : Int)) = true := decide_eq_true c3
                  have off := HV.out.2 j c3
                  rw [off] at C1
                  clear off
                  go_wp2_with fail
                  refine C2'.out.mono ?_
                  rintro e w5 ⟨rfl, rfl⟩
                  go_wp2_with fail
                  refine C1.out.mono ?_
                  rintro e w5 ⟨rfl, d2, rfl⟩
                  go_wp2
                  go_roundw
                  case rel => exact ⟨j + 1, by omega, by go_num, Lib.hid (belowN HX.out _)⟩
                  case measure => simp [intOf]; omega
                · have e3 : decide (hv < (j : Int)) = false := decide_eq_false c3
                  go_wp2_with fail
                  refine C2'.out.mono ?_
                  rintro e w5 ⟨rfl, rfl⟩
                  go_wp2
                  go_roundw
                  case rel => exact ⟨j + 1, by omega, by go_num, HX⟩
                  case measure => simp [intOf]; omega
          · have dj : decide ((j : Int) < (K : Int)) = false := by simp; omega
            have g0 : decide ((0 : Int) ≤ (q : Int)) = true := decide_eq_true FL.out.z0
            have g2 : (q : Int) ≤ (K : Int) := FL.out.z1
            have g1 : decide ((q : Int) ≤ (K : Int)) = true := decide_eq_true g2
            have C2' := Lib.hid (HHi.out wr HX.out)
            have C5 := Lib.hid (fun d => HHa.out K (wr.drewN d) (belowN HX.out d))
            rw [HO.out] at C5
            have C6 := Lib.hid (fun d => HHm.out (wr.drewN d) (belowN HX.out d))
            rcases HV.out.1 with hm | ⟨i, hi, on⟩
            · have e4 : (hv == -1) = true := by simp [hm]
              clear hm
              go_wp2_with fail
              refine C2'.out.mono ?_
              rintro e w5 ⟨rfl, rfl⟩
              go_wp2_with fail
              refine (C5.out 0).mono ?_
              rintro e w5 ⟨rfl, d, rfl⟩
              go_wp2_with fail
              refine (C6.out d).mono ?_
              rintro e w5 ⟨rfl, d2, rfl⟩
              go_wp2
              go_ret
              exact ⟨rfl, belowT HB.out (belowN HX.out _)⟩
            · have C4 := Lib.hid (HHa.out i wr HX.out)
              rw [on] at C4
              rw [hi] at C2'
              have e4 : ((i : Int) == -1) = false := by simp <;> omega
              clear hi on
              go_wp2_with fail
              refine C2'.out.mono ?_
              rintro e w5 ⟨rfl, rfl⟩
              go_wp2_with fail
              refine C2'.out.mono ?_
              rintro e w5 ⟨rfl, rfl⟩
              go_wp2_with fail
              refine C4.out.mono ?_
              rintro e w5 ⟨rfl, d, rfl⟩
              go_wp2_with fail
              refine (C5.out d).mono ?_
              rintro e w5 ⟨rfl, d2, rfl⟩
              go_wp2_with fail
              first | refine (C6.out (d + d2)).mono ?_ | skip
              rintro e w5 ⟨rfl, d3, rfl⟩
              go_wp2
              go_ret
              exact ⟨rfl, belowT HB.out (belowN HX.out _)⟩

/-! ### The frame of the row -/
set_option maxRecDepth 100000 in
theorem lifted (os : Os) (started : os.Started) (H : Type) (enc : TypeId × Value → H) :
    ReturnsInHanded {} Try.checked os 6 .any (Rows.bitsBetweenSpec.pre6 enc Try.prog Try.f6 Rows.bitsBetweenRow.domain false) (Rows.bitsBetweenSpec.post enc Try.prog Try.f6 false true false false) := by
  refine returnsInHanded_of_change (C := Try.checked) own started (by kernel_rfl) Try.func6
    (ChangeSpec.witness6 (enc := enc) (C := Try.checked) false ⟨#[], #[.int .u8 0, .slice none 0 0], []⟩ 8 (by kernel_rfl) (by kernel_rfl) (by kernel_rfl) (by kernel_rfl)) ?_
  intro W base args ds gs before hval0 hW hcnd _
  have hval : ∀ (j : Nat) t v, Try.f6.params[j]? = some t → args[j]? = some v → Value.okWide Try.prog W .any base t v := hval0
  have hW' := hW
  obtain ⟨p, q, hA0, hV, rfl, hfz, hnd⟩ := hW
  have hA : DataW.TrodAll enc Try.prog W 0 (fun _ => true) true Try.f6.params.toList args.toList ds p := hA0
  rw [Try.params6] at hA hval
  obtain ⟨v0, vs0, d0, ds0, p0, q0, hargs, rfl, rfl, h0, r0⟩ := trodAll_cons hA
  obtain ⟨v1, vs1, d1, ds1, p1, q1, rfl, rfl, rfl, h1, r1⟩ := trodAll_cons r0
  obtain ⟨rfl, rfl, rfl⟩ := trodAll_nil r1
  obtain rfl : args = #[v0, v1] := by cases args; simp_all
  obtain ⟨rfl, rfl⟩ := trodVars_none hV
  obtain ⟨n, rfl, rfl, rfl, hn⟩ := open_int Try.underlying5 (hval 0 5 v0 rfl rfl) h0
  have k1 := h1
  have lt1 : ∀ x ∈ p1, x.block < W.heap.size := by obtain ⟨m, hm⟩ := k1; exact DataW.trod_lt m _ _ _ hm
  obtain ⟨al, ll, cl, rfl⟩ := okWide_slice Try.underlying22 (hval 1 22 v1 rfl rfl)
  obtain ⟨l, hcl, hl⟩ : ∃ xs, ll ≤ cl ∧ Acts W W.heap.size al ll xs := by
    obtain ⟨fuel, hf⟩ := h1
    obtain ⟨a, l, c, xs, e, hl, hi⟩ := acts_field (by simpa [Value.cells] using hf)
    injection e with e1 e2 e3
    subst e1 e2 e3
    exact ⟨xs, hl, hi⟩
  clear hA0 hval0
  refine (walk n al ll cl l W hn hl hcl).mono fun e W' ⟨he, bel⟩ => ?_
  subst he
  exact ⟨_, rfl, _, _, _, [], _, [], hW', trodAll_mk1 (shut_bool Try.underlying4 _), (trodAll_cons_mk (shut_int Try.underlying5 hn) (trodAll_cons_mk (Below.trod laidOut (by kernel_rfl) (of_decide_eq_true (by kernel_rfl)) k1 bel lt1) trodAll_mk0)), rfl, bel.frame _, fun h => by cases h⟩

theorem over : Rows.bitsBetweenRow.holds Try.pinned (OpenSpec.ofChange Rows.bitsBetweenSpec) :=
  OpenClaim.holds_of_wide 6 Try.f6 rfl rfl rfl rfl rfl rfl rfl ⟨rfl, rfl, rfl, rfl, rfl⟩ rfl rfl rfl rfl rfl (by kernel_rfl) Try.func6 (by kernel_rfl)
    (of_decide_eq_true (by kernel_rfl)) (by unfold Func.isWrapper; first | (rw [if_pos (by decide +kernel)]; kernel_rfl) | (rw [if_neg (by decide +kernel)]; exact ⟨rfl, rfl⟩))
    (fun os started H enc _ => lifted os started H enc)

theorem proved : Rows.BitsBetweenSaid := over
#print axioms proved
end Go.Proofs.Ytbdjocoedcgfbaa.bitsBetween
