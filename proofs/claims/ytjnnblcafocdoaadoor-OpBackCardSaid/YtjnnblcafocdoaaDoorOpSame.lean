/-
  The document's Same and Few of package op (almeryref19), met by contracts: scripts that are the same are told to be; what is few.
-/
import Derived.Test.YtjnnblcafocdoaaDoorOpRef
import Derived.Deep.QuietTactic
import Derived.BigQuiet
namespace Go.Proofs.YtjnnblcafocdoaaDoor
open Go.ChangeShapes Go.WideShapes Go.ChangeAt Go.RowKit

theorem op_at {us vs : List Ov} (he : us.map Ov.op = vs.map Ov.op) {k : Nat} {u v : Ov} (hu : us[k]? = some u) (hv : vs[k]? = some v) : u.kind = v.kind ∧ u.h = v.h ∧ u.a = v.a ∧ u.b = v.b ∧ u.bs = v.bs := by
  have h1 : (us.map Ov.op)[k]? = some u.op := by rw [List.getElem?_map, hu]; rfl
  have h2 : (vs.map Ov.op)[k]? = some v.op := by rw [List.getElem?_map, hv]; rfl
  rw [he, h2] at h1
  injection h1 with h1
  unfold Ov.op at h1
  injection h1 with a b c d e
  exact ⟨a.symm, b.symm, c.symm, d.symm, e.symm⟩
set_option maxRecDepth 20000 in
set_option maxHeartbeats 1000000 in
theorem refSame19_any (a a' : Option Addr) (n c m c' : Nat) (us vs : List Ov) (w : World) (h1 : Ops w w.heap.size a n us) (h2 : Ops w w.heap.size a' m vs) (he : us.map Ov.op = vs.map Ov.op) :
    Calls Tryd.prog 14 #[.slice a n c, .slice a' m c'] w (BQ true w) := by
  have hnm : n = m := by
    have := congrArg List.length he
    rw [List.length_map, List.length_map, h1.len, h2.len] at this
    exact this
  subst hnm
  have hmax := h1.max
  have HE := Lib.hid he
  clear he
  go_enter Tryd.func14, Tryd.ntmps14
  go_wp2
  go_loopw [5] (fun i wr => ∃ k j : Nat, k ≤ n ∧ i = .int .i64 k ∧ wr = w.drewN j) (fun i _ => n - (intOf i).toNat)
  case atStart => exact ⟨0, 0, Nat.zero_le _, rfl, rfl⟩
  case round =>
    obtain ⟨k, j, hk, rfl, hwr⟩ := hrel
    have bwr : Below w.heap.size w wr := by rw [hwr]; exact belowN (Below.refl _ _) _
    by_cases hlt : k < n
    · have h1' := h1.below bwr
      have h2' := h2.below bwr
      obtain ⟨u, hu, ok1⟩ := h1'.at_ hlt
      obtain ⟨v, hv, ok2⟩ := h2'.at_ hlt
      obtain ⟨b, o, rfl, _, x0, x1, x2, x3, x4⟩ := h1'.at5 hu
      obtain ⟨b', o', rfl, _, y0, y1, y2, y3, y4⟩ := h2'.at5 hv
      obtain ⟨e0, e1, e2, e3, e4⟩ := op_at HE.out hu hv
      rw [← e0] at y0
      rw [← e1] at y1
      rw [← e2] at y2
      rw [← e3] at y3
      have s1 : ∀ i, (convert 25 9 (.slice u.ba u.bn u.bc)).run Tryd.prog (wr.drewN i) = .ok (.string (strOfNums u.bs)) (wr.drewN i) := fun i => string_run (ok1.bytes.drewN i)
      have s2 : ∀ i, (convert 25 9 (.slice v.ba v.bn v.bc)).run Tryd.prog (wr.drewN i) = .ok (.string (strOfNums u.bs)) (wr.drewN i) := fun i => by rw [e4]; exact string_run (ok2.bytes.drewN i)
      have HW := Lib.hid hwr
      clear hu hv ok1 ok2 e0 e1 e2 e3 e4 h1' h2' hwr bwr
      go_wp2_with fail
      go_quiet (fail)
      go_wp2
      exact ⟨⟨k + 1, j + nq, by omega, by simp, by rw [HW.out, World.drewN_drewN]⟩, by simp [intOf]; omega⟩
    · go_wp2
      go_ret
      exact ⟨rfl, j, by first | rfl | exact hwr⟩
/-- The same, inside a region that draws. -/
theorem refSame19_quiet (a a' : Option Addr) (n c m c' : Nat) (us vs : List Ov) (w : World) (h1 : Ops w w.heap.size a n us) (h2 : Ops w w.heap.size a' m vs) (he : us.map Ov.op = vs.map Ov.op) (q : Nat) :
    Calls Tryd.prog 14 #[.slice a n c, .slice a' m c'] (w.drewN q) fun e w'' => e = .returned (.bool true) ∧ ∃ k, w'' = w.drewN k := by
  have b : Below w.heap.size w (w.drewN q) := belowN (Below.refl _ _) _
  refine (refSame19_any a a' n c m c' us vs (w.drewN q) (h1.on b) (h2.on b) he).mono ?_
  rintro e w2 ⟨rfl, j, rfl⟩
  exact ⟨rfl, q + j, World.drewN_drewN _ _ _⟩
/-- What Few tells: if it is true, there are 40 at most, of 300 bytes. -/
def FewEnd19 (n : Nat) (us : List Ov) (w : World) (e : Ending) (w' : World) : Prop := ∃ r : Bool, e = .returned (.bool r) ∧ w = w' ∧ (r = true → n ≤ 40 ∧ ∀ u ∈ us, u.bn ≤ 300)
theorem refFew19_any (a : Option Addr) (n c : Nat) (us : List Ov) (B : Nat) (w : World) (h : Ops w B a n us) :
    Calls Tryd.prog 9 #[.slice a n c] w (FewEnd19 n us w) := by
  have hmax := h.max
  go_enter Tryd.func9, Tryd.ntmps9
  go_wp2
  go_loop [3] (fun i => ∃ k : Nat, k ≤ n ∧ k ≤ 41 ∧ i = .int .i64 k ∧ ∀ (j : Nat) (u : Ov), j < k → us[j]? = some u → u.bn ≤ 300) (fun i => n - (intOf i).toNat)
  case atStart => exact ⟨0, Nat.zero_le _, by omega, rfl, fun j u hj => by omega⟩
  case round =>
    obtain ⟨k, hk, hk41, rfl, hall⟩ := hrel
    have HA := Lib.hid hall
    clear hall
    by_cases hlt : k < n
    · by_cases h41 : k < 41
      · obtain ⟨u, hu, ok1⟩ := h.at_ hlt
        obtain ⟨b, o, rfl, _, x0, x1, x2, x3, x4⟩ := h.at5 hu
        have HU := Lib.hid hu
        have d41 : decide ((k : Int) < 41) = true := decide_eq_true (by omega)
        clear hu ok1 x0 x1 x2 x3
        by_cases h3 : 300 < u.bn
        · have d3 : decide (300 < (u.bn : Int)) = true := decide_eq_true (by omega)
          go_wp2
          go_ret
          exact ⟨false, rfl, rfl, fun q => by cases q⟩
        · have d3 : decide (300 < (u.bn : Int)) = false := decide_eq_false (by omega)
          have d3' : decide (300 < u.bn) = false := decide_eq_false h3
          go_wp2
          go_round
          case rel =>
            refine ⟨k + 1, by omega, by omega, by go_num, fun j v hj hv => ?_⟩
            by_cases q : j = k
            · subst q
              rw [HU.out] at hv
              injection hv with hv
              subst hv
              omega
            · exact HA.out j v (by omega) hv
          case measure => simp [intOf]; omega
      · have d41 : decide ((k : Int) < 41) = false := decide_eq_false (by omega)
        have dn : decide ((n : Int) ≤ 40) = false := decide_eq_false (by omega)
        go_wp2
        go_ret
        exact ⟨false, rfl, rfl, fun q => by cases q⟩
    · obtain rfl : k = n := by omega
      by_cases h40 : k ≤ 40
      · have dn : decide ((k : Int) ≤ 40) = true := decide_eq_true (by omega)
        have HL := Lib.hid h.len
        go_wp2
        go_ret
        refine ⟨true, rfl, rfl, fun _ => ⟨h40, fun u hu => ?_⟩⟩
        obtain ⟨j, hj⟩ := List.mem_iff_getElem?.1 hu
        exact HA.out j u (by have := (List.getElem?_eq_some_iff.1 hj).1; have := HL.out; omega) hj
      · have dn : decide ((k : Int) ≤ 40) = false := decide_eq_false (by omega)
        go_wp2
        go_ret
        exact ⟨false, rfl, rfl, fun q => by cases q⟩
end Go.Proofs.YtjnnblcafocdoaaDoor
