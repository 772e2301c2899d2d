/-
  An act of move's laws (almeryref15.Act), as plain data, opened out of an argument; what an act comes to ('actOut'); the law's own 'do'; the document's 'Few'.
-/
import Derived.Test.YtadljlkflmodiaaMoveUse
import Derived.Test.YtadljlkflmodiaaMoveNum
import Derived.Test.YtadljlkflmodiaaRecs
import Derived.Test.YtadljlkflmodiaaBytesField
namespace Go.Proofs.Ytadljlkflmodiaa
open Go.ChangeShapes Go.WideShapes Go.ChangeAt Go.RowKit Go.Deep

structure Ac where
  step : Bool
  at_ : Int
  n : Int
  ba : Option Addr
  bn : Nat
  bc : Nat
  bs : List Int
instance : Inhabited Ac := ⟨⟨false, 0, 0, none, 0, 0, []⟩⟩
def Ac.cells (u : Ac) : List Value := [.bool u.step, .int .i64 u.at_, .int .i64 u.n, .slice u.ba u.bn u.bc]
def Ac.ok (u : Ac) (w : World) (B : Nat) : Prop := (-9223372036854775808 ≤ u.at_ ∧ u.at_ ≤ 9223372036854775807) ∧ (-9223372036854775808 ≤ u.n ∧ u.n ≤ 9223372036854775807) ∧ Bytes w B u.ba u.bn u.bs
theorem Ac.ok.below {u : Ac} {w w' : World} {B : Nat} (h : u.ok w B) (hb : Below B w w') : u.ok w' B := ⟨h.1, h.2.1, h.2.2.below hb⟩
def Acts (w : World) (B : Nat) (a : Option Addr) (n : Nat) (us : List Ac) : Prop := Recs Ac.cells Ac.ok 4 w B a n us
theorem Acts.below {w w' : World} {B n : Nat} {a : Option Addr} {us : List Ac} (h : Acts w B a n us) (hb : Below B w w') : Acts w' B a n us := Recs.below h (fun _ q => q.below hb) hb
section
variable {H : Type} {enc : TypeId × Value → H} {w : World}
theorem act_cells (cs : List Value) (fuel : Nat) (x : DataW H × List MemPlace) (h : DataW.trod enc Try.prog w 0 (fun _ => true) true fuel 48 cs = some x) : ∃ u : Ac, cs = u.cells ∧ u.ok w w.heap.size := by
  obtain ⟨hl, hf⟩ := fields_of Try.underlying48 (by kernel_rfl) (by kernel_rfl) h
  match cs, hl with
  | [v0, v1, v2, v3], _ =>
    obtain ⟨u0, _, n0, e0, t0⟩ := hf 0 _ rfl
    obtain ⟨u1, _, n1, e1, t1⟩ := hf 1 _ rfl
    obtain ⟨u2, _, n2, e2, t2⟩ := hf 2 _ rfl
    obtain ⟨u3, _, n3, e3, t3⟩ := hf 3 _ rfl
    simp at e0 e1 e2 e3
    subst e0 e1 e2 e3
    obtain ⟨a0, rfl⟩ := bool_field t0
    obtain ⟨a1, rfl, f1⟩ := i64_field t1
    obtain ⟨a2, rfl, f2⟩ := i64_field t2
    obtain ⟨ba, bn, bc, bs, rfl, hc, f3⟩ := bytes_field t3
    exact ⟨⟨a0, a1, a2, ba, bn, bc, bs⟩, rfl, f1, f2, f3⟩
theorem acts_field {n : Nat} {u : Value} {y : DataW H × List MemPlace} (h : DataW.trod enc Try.prog w 0 (fun _ => true) true n 24 [u] = some y) : ∃ (a : Option Addr) (len cap : Nat) (us : List Ac), u = .slice a len cap ∧ len ≤ cap ∧ Acts w w.heap.size a len us :=
  recs_field Try.underlying24 (k := 4) (by kernel_rfl) (by decide) (fun _ => rfl) act_cells h
end

/-- What an act comes to. -/
def actOut (xs : List Int) (f t s g : Nat) (u : Ac) : MOut :=
  if u.step = true then ⟨goes s g u.n, laid xs f t g (goes s g u.n), g + goes s g u.n, 0, goes s g u.n⟩
  else if 0 ≤ u.at_ ∧ u.at_ + u.bn ≤ (s : Int) then ⟨0, laid (splice xs (f + u.at_.toNat) u.bs) f t u.at_.toNat (again g u.at_.toNat u.bn), g, u.bn, again g u.at_.toNat u.bn⟩
  else ⟨0, xs, g, 0, 0⟩
theorem actOut_alike {xs : List Int} {f t s g : Nat} {u : Ac} (hu : u.bs.length = u.bn) (h : Alike xs f t g) (hfs : f + s ≤ xs.length) (hts : t + s ≤ xs.length) (ha : f + s ≤ t) (hg : g ≤ s) : Alike (actOut xs f t s g u).xs f t (actOut xs f t s g u).gone := by
  unfold actOut
  split
  · exact h.step hfs hts ha (goes_le hg _)
  · split
    · rename_i _ q
      exact h.wrote hfs hts ha hg (by omega) hu
    · exact h
theorem actOut_fit {xs : List Int} {f t s g : Nat} {u : Ac} (hu : u.bs.length = u.bn) (hfs : f + s ≤ xs.length) (hts : t + s ≤ xs.length) (hg : g ≤ s) : (actOut xs f t s g u).xs.length = xs.length ∧ (actOut xs f t s g u).gone ≤ s ∧ (actOut xs f t s g u).s1 ≤ s ∧ (actOut xs f t s g u).s2 ≤ s := by
  unfold actOut
  have hk := goes_le hg u.n
  split
  · exact ⟨length_laid (by omega) (by omega), hk, Nat.zero_le _, by show goes s g u.n ≤ s; omega⟩
  · split
    · rename_i _ q
      have hr := again_le (s := s) (g := g) (at_ := u.at_.toNat) (n := u.bn) (by omega)
      exact ⟨length_wrote hfs hts (by omega) hu, hg, by show u.bn ≤ s; omega, by show again g u.at_.toNat u.bn ≤ s; omega⟩
    · exact ⟨rfl, hg, Nat.zero_le _, Nat.zero_le _⟩

/-- How 'Few' ends: yes or no; yes only of 20 at most. -/
def FewEnds (n : Nat) (w : World) (e : Ending) (w' : World) : Prop := ∃ f : Bool, e = .returned (.bool f) ∧ w = w' ∧ (f = true → n ≤ 20)
theorem few_any (a : Option Addr) (n c : Nat) (us : List Ac) (B : Nat) (w : World) (h : Acts w B a n us) (_hnc : n ≤ c) :
    Calls Try.prog 9 #[.slice a n c] w (FewEnds n w) := by
  have hmax := h.max
  have H := Lib.hid h
  clear h
  go_enter Try.func9, Try.ntmps9
  go_wp2
  go_loop [3] (fun i => ∃ k : Nat, k ≤ 21 ∧ i = .int .i64 k) (fun i => 21 - (intOf i).toNat)
  case atStart => exact ⟨0, by omega, rfl⟩
  case round =>
    obtain ⟨k, hk, rfl⟩ := hrel
    by_cases h1 : k < n
    · have d1 : decide ((k : Int) < (n : Int)) = true := by simp; omega
      by_cases h2 : k < 21
      · have d2 : decide ((k : Int) < 21) = true := by simp; omega
        obtain ⟨b, o, rfl, hb, hc⟩ := H.out.head (by omega)
        have hu : us[k]? = some (us[k]'(by rw [H.out.len]; exact h1)) := List.getElem?_eq_getElem _
        generalize us[k]'(by rw [H.out.len]; exact h1) = u at hu
        have hok := H.out.ok k u hu
        have hm := hok.2.2.max
        have h5 : w.cell? ⟨b, o + k * 4 + 3, none⟩ = some (.slice u.ba u.bn u.bc) := hc k u hu 3 _ rfl
        clear hc hu hok
        by_cases h3 : 60 < u.bn
        · have d3 : decide ((60 : Int) < (u.bn : Int)) = true := by simp; omega
          go_wp2
          go_ret
          exact ⟨false, rfl, rfl, fun h => by cases h⟩
        · have d3 : decide ((60 : Int) < (u.bn : Int)) = false := by simp; omega
          go_wp2
          go_round
          case rel => exact ⟨k + 1, by omega, by go_num⟩
          case measure => simp [intOf]; omega
      · have d2 : decide ((k : Int) < 21) = false := by simp; omega
        have d4 : decide ((n : Int) ≤ 20) = false := by simp; omega
        go_wp2
        go_ret
        exact ⟨false, rfl, rfl, fun h => by cases h⟩
    · have d1 : decide ((k : Int) < (n : Int)) = false := by simp; omega
      by_cases h4 : n ≤ 20
      · have d4 : decide ((n : Int) ≤ 20) = true := by simp; omega
        go_wp2
        go_ret
        exact ⟨true, rfl, rfl, fun _ => h4⟩
      · have d4 : decide ((n : Int) ≤ 20) = false := by simp; omega
        go_wp2
        go_ret
        exact ⟨false, rfl, rfl, fun h => by cases h⟩
end Go.Proofs.Ytadljlkflmodiaa
