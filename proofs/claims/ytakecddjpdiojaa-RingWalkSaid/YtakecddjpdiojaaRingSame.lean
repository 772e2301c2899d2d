/-
  The law's own 'same' of package ring: lists that hold the same as the document's tell the same.
-/
import Derived.Test.YtakecddjpdiojaaRingAct
import Derived.Test.YtakecddjpdiojaaQuietImp
import Derived.Test.YtakecddjpdiojaaRegImp
namespace Go.Proofs.Ytakecddjpdiojaa
open Go.ChangeShapes Go.WideShapes Go.ChangeAt Go.RowKit Go.Deep

theorem keep2 {w w' : World} (hb : Below w.heap.size w w') {p0 p1 : Addr} {x0 x1 : Value}
    (h : w.cell? p0 = some x0 ∧ w.cell? p1 = some x1) : w'.cell? p0 = some x0 ∧ w'.cell? p1 = some x1 :=
  ⟨(hb.cell (lt_of_cell h.1)).trans h.1, (hb.cell (lt_of_cell h.2)).trans h.2⟩

section
variable {w : World} {N M C : Nat} {L : List (List Int)}
set_option maxHeartbeats 1600000 in
theorem same07_any {p a b : Nat} (h : Rg w p a b N M C L) (hM : 1 ≤ M) (hM2 : M ≤ 64) (hN : N ≤ 4096) (xa : Option Addr) (c : Nat) (hL : Lss w w.heap.size xa M L) :
    Calls Try.prog 13 #[.pointer (some ⟨p, 0, none⟩), .agg #[.slice xa M c, .int .i64 (N : Int)]] w (BB true w) := by
  have hB := below1 w (.cells #[.slice xa M c, .int .i64 (N : Int)] 30)
  have HX := Lib.hid (Lv.new w xa M c N)
  have HR := Lib.hid (h.below hB)
  have HL := Lib.hid (hL.on hB)
  have HB := Lib.hid hB
  have HW := Lib.hid h.wf
  clear h hL hB
  go_enter Try.func13, Try.ntmps13
  go_wp2
  generalize w.alloc (.cells #[.slice xa M c, .int .i64 (N : Int)] 30) = w1 at HX HR HL HB ⊢
  generalize w.heap.size = g at HX ⊢
  go_loopw [5] (fun i wr => ∃ z : Int, -1 ≤ z ∧ z ≤ (M : Int) + 1 ∧ i = .int .i64 z ∧ Below w1.heap.size w1 wr) (fun i _ => ((M : Int) + 1 - intOf i).toNat)
  case atStart => exact ⟨-1, by omega, by omega, rfl, Below.refl _ _⟩
  case round =>
    obtain ⟨z, hz0, hz1, rfl, hb⟩ := hrel
    have HBB := Lib.hid hb
    obtain ⟨p0, p1, p2, p3⟩ := HX.out.below hb
    clear hb
    by_cases hlt : z ≤ (M : Int)
    · have dk : decide (z ≤ (M : Int)) = true := by simpa using hlt
      have HE := Lib.hid (refEnds_any hM xa c (N : Int) z (HL.out.on HBB.out))
      have HF := Lib.hid (fun v (hv : Below w1.heap.size w1 v) => rgFirst (HR.out.below hv) z)
      have HLa := Lib.hid (fun v (hv : Below w1.heap.size w1 v) => rgLast (HR.out.below hv) z)
      have HLe := Lib.hid (fun v (hv : Below w1.heap.size w1 v) => rgLen (HR.out.below hv) z)
      generalize firstI L z = f1 at HE HF
      generalize lastI L z = f2 at HE HLa
      generalize lenI L z = f3 at HE HLe
      have t1 : (f1 != f1) = false := by simp
      have t2 : (f2 != f2) = false := by simp
      have t3 : (f3 != f3) = false := by simp
      go_wp2_with fail
      refine HE.out.mono ?_
      rintro e w2 ⟨rfl, b2⟩
      have B2 := Lib.hid (belowT HBB.out b2)
      clear b2
      go_wp2_with fail
      refine (HF.out w2 B2.out).mono ?_
      rintro e w3 ⟨rfl, rfl⟩
      go_wp2_with fail
      refine (HLa.out w2 B2.out).mono ?_
      rintro e w3 ⟨rfl, rfl⟩
      go_wp2_with fail
      refine (HLe.out w2 B2.out).mono ?_
      rintro e w3 ⟨rfl, rfl⟩
      go_wp2
      go_roundw
      case rel => exact ⟨z + 1, by omega, by omega, by go_num, B2.out⟩
      case measure => simp [intOf]; omega
    · have dk : decide (z ≤ (M : Int)) = false := by simpa using hlt
      clear hz0 hz1 hlt
      go_wp2
      go_loopw [9] (fun i wr => ∃ z : Int, -1 ≤ z ∧ z ≤ (N : Int) + 1 ∧ i = .int .i64 z ∧ Below w1.heap.size w1 wr) (fun i _ => ((N : Int) + 1 - intOf i).toNat)
      case atStart => exact ⟨-1, by omega, by omega, rfl, HBB.out⟩
      case round =>
        clear HBB p0 p1 p2 p3 dk
        obtain ⟨y, hy0, hy1, rfl, hb⟩ := hrel
        have HBB := Lib.hid hb
        obtain ⟨p0, p1, p2, p3⟩ := HX.out.below hb
        clear hb
        by_cases hlt : y ≤ (N : Int)
        · have dk : decide (y ≤ (N : Int)) = true := by simpa using hlt
          have HO := Lib.hid (fun v (hv : Below w1.heap.size w1 v) => rgOf (HR.out.below hv) y)
          have HN := Lib.hid (fun v (hv : Below w1.heap.size w1 v) => rgNext (HR.out.below hv) y)
          have HO2 := Lib.hid (fun v (hv : Below w1.heap.size w1 v) => refOf_any HW.out hM xa c (N : Int) y (HL.out.on hv))
          have HN2 := Lib.hid (fun v (hv : Below w1.heap.size w1 v) => refNext_any HW.out hM xa c (N : Int) y (HL.out.on hv))
          generalize ofL L y = f1 at HO HO2
          generalize nextL L y = f2 at HN HN2
          have t1 : (f1 != f1) = false := by simp
          have t2 : (f2 != f2) = false := by simp
          have S0 := Lib.hid (show wr.cell? ⟨g, 0, none⟩ = some (.slice xa M c) ∧ wr.cell? ⟨g, 1, none⟩ = some (.int .i64 (N : Int)) from ⟨p0, p1⟩)
          go_wp2_with fail
          go_region_held3 (fun w' => w'.cell? ⟨g, 0, none⟩ = some (.slice xa M c) ∧ w'.cell? ⟨g, 1, none⟩ = some (.int .i64 (N : Int)))
            (first | exact S0.out | exact S2 | exact S4 | go_keep)
            (first
              | (go_at_call 15; refine (HO.out _ ?_).mono ?_; (first | exact belowD HBB.out | exact B2); rintro e w3 ⟨rfl, rfl⟩)
              | (go_at_call 19; refine (HO2.out _ ?_).mono ?_; (first | exact belowD HBB.out); rintro e w2 ⟨rfl, b2⟩; have B2 := belowT (belowD HBB.out) b2; have S2 := keep2 (w := wr.drew) b2 S0.out)
              | (go_at_call 18; refine (HN.out _ ?_).mono ?_; (first | exact B2 | exact B4); rintro e w3 ⟨rfl, rfl⟩)
              | (go_at_call 27; refine (HN2.out _ ?_).mono ?_; (first | exact B2); rintro e w4 ⟨rfl, b4⟩; have B4 := belowT B2 b4; have S4 := keep2 b4 S2))
          all_goals
            go_wp2
            go_roundw
            case rel => exact ⟨y + 1, by omega, by omega, by go_num, B4⟩
            case measure => simp [intOf]; omega
        · have dk : decide (y ≤ (N : Int)) = false := by simpa using hlt
          go_wp2
          go_ret
          exact ⟨rfl, belowT HB.out HBB.out⟩
end
end Go.Proofs.Ytakecddjpdiojaa
