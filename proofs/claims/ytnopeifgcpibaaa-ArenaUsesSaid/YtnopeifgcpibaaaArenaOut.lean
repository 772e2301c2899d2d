/-
  What a use comes to ('useOut'), as facts: one that is refused changes nothing and charges nothing; one that is made charges a step a byte, or one. And a use's cells in memory. No statement about a Go function.
-/
import Derived.Test.YtnopeifgcpibaaaArenaDo
namespace Go.Proofs.Ytnopeifgcpibaaa
open Go.ChangeShapes Go.WideShapes Go.ChangeAt Go.RowKit

/-- What is to be charged for a use that is made. -/
def wantOf (u : Us) : Int := if u.kind % 6 = 1 then u.bn else if 3 < u.kind % 6 then 1 else u.n

section
variable {u : Us} {xs : List Int}
theorem useOut_cases (u : Us) (xs : List Int) (hl : u.bs.length = u.bn) :
    ((useOut u xs).err ≠ 0 ∧ (useOut u xs).xs = xs ∧ (useOut u xs).steps = 0) ∨
    ((useOut u xs).err = 0 ∧ (useOut u xs).xs.length = xs.length ∧ (useOut u xs).steps = wantOf u ∧ 0 ≤ wantOf u ∧ wantOf u ≤ max 1 xs.length) := by
  have hk : u.kind % 6 = 0 ∨ u.kind % 6 = 1 ∨ u.kind % 6 = 2 ∨ u.kind % 6 = 3 ∨ u.kind % 6 = 4 ∨ u.kind % 6 = 5 := by omega
  rcases hk with hr | hr | hr | hr | hr | hr
  · by_cases ht : thereB xs.length u.at_ u.n
    · right
      have hw : wantOf u = u.n := by simp [wantOf, hr]
      rw [show useOut u xs = ⟨sub xs u.at_.toNat u.n.toNat, 0, 0, xs, u.n⟩ by simp [useOut, hr, ht], hw]
      obtain ⟨t1, t2, t3⟩ := ht
      exact ⟨rfl, rfl, rfl, t2, by omega⟩
    · left
      rw [show useOut u xs = ⟨[], 0, 8, xs, 0⟩ by simp [useOut, hr, ht]]
      exact ⟨by simp, rfl, rfl⟩
  · by_cases ht : thereB xs.length u.at_ u.bn
    · right
      have hw : wantOf u = u.bn := by simp [wantOf, hr]
      rw [show useOut u xs = ⟨[], 0, 0, splice xs u.at_.toNat u.bs, u.bn⟩ by simp [useOut, hr, ht], hw]
      obtain ⟨t1, t2, t3⟩ := ht
      exact ⟨rfl, length_splice _ _ _ (by omega), rfl, t2, by omega⟩
    · left
      rw [show useOut u xs = ⟨[], 0, 8, xs, 0⟩ by simp [useOut, hr, ht]]
      exact ⟨by simp, rfl, rfl⟩
  · by_cases ht : thereB xs.length u.at_ u.n
    · right
      have hw : wantOf u = u.n := by simp [wantOf, hr]
      rw [show useOut u xs = ⟨[], 0, 0, splice xs u.at_.toNat (List.replicate u.n.toNat (u.v % 256)), u.n⟩ by simp [useOut, hr, ht], hw]
      obtain ⟨t1, t2, t3⟩ := ht
      exact ⟨rfl, length_splice _ _ _ (by rw [List.length_replicate]; omega), rfl, t2, by omega⟩
    · left
      rw [show useOut u xs = ⟨[], 0, 8, xs, 0⟩ by simp [useOut, hr, ht]]
      exact ⟨by simp, rfl, rfl⟩
  · by_cases ht : thereB xs.length u.from_ u.n ∧ thereB xs.length u.at_ u.n
    · right
      have hw : wantOf u = u.n := by simp [wantOf, hr]
      rw [show useOut u xs = ⟨[], 0, 0, splice xs u.at_.toNat (sub xs u.from_.toNat u.n.toNat), u.n⟩ by simp [useOut, hr, ht], hw]
      obtain ⟨⟨s1, s2, s3⟩, t1, t2, t3⟩ := ht
      exact ⟨rfl, length_splice _ _ _ (by rw [length_sub _ _ _ (by omega)]; omega), rfl, t2, by omega⟩
    · left
      rw [show useOut u xs = ⟨[], 0, 8, xs, 0⟩ by simp only [useOut, hr, if_neg ht]; simp]
      exact ⟨by simp, rfl, rfl⟩
  · by_cases hz : wordErr xs.length u.at_ = 0
    · right
      have hw : wantOf u = 1 := by simp [wantOf, hr]
      rw [show useOut u xs = ⟨[], wordOf (sub xs u.at_.toNat 8), 0, xs, 1⟩ by simp [useOut, hr, hz], hw]
      exact ⟨rfl, rfl, rfl, by omega, by omega⟩
    · left
      rw [show useOut u xs = ⟨[], 0, wordErr xs.length u.at_, xs, 0⟩ by simp [useOut, hr, hz]]
      exact ⟨hz, rfl, rfl⟩
  · by_cases hz : wordErr xs.length u.at_ = 0
    · right
      have hw : wantOf u = 1 := by simp [wantOf, hr]
      rw [show useOut u xs = ⟨[], 0, 0, splice xs u.at_.toNat (bytesOf 8 u.v), 1⟩ by simp [useOut, hr, hz], hw]
      obtain ⟨⟨t1, t2, t3⟩, _⟩ := wordErr_zero hz
      exact ⟨rfl, length_splice _ _ _ (by rw [length_bytesOf]; omega), rfl, by omega, by omega⟩
    · left
      rw [show useOut u xs = ⟨[], 0, wordErr xs.length u.at_, xs, 0⟩ by simp [useOut, hr, hz]]
      exact ⟨hz, rfl, rfl⟩
theorem useOut_len (u : Us) (xs : List Int) (hl : u.bs.length = u.bn) : (useOut u xs).xs.length = xs.length := by
  rcases useOut_cases u xs hl with ⟨_, e, _⟩ | ⟨_, e, _⟩
  · rw [e]
  · exact e
end

/-- Behind a lap. -/
theorem Ar.metered {w w' : World} {p b g : Nat} {xs : List Int} {t l t' l' : Int} (h : Ar w p b (some g) xs t l) (hm : Mt w' g t' l') (hb : But (· = g) w w') : Ar w' p b (some g) xs t' l' := by
  have hp : ¬ p = g := fun e => h.mp (by rw [e])
  have hbg : ¬ b = g := fun e => h.mb (by rw [e])
  exact ⟨(hb.cell (p := ⟨p, 0, none⟩) h.size hp).trans h.bytes, (hb.cell (p := ⟨p, 1, none⟩) h.size hp).trans h.charge, h.row.but hb hbg, Mo.one hm, h.pb, h.mp, h.mb⟩

/-- Block g holds the use u. -/
structure UBox (w : World) (g : Nat) (u : Us) : Prop where
  c0 : w.cell? ⟨g, 0, none⟩ = some (.int .u8 u.kind)
  c1 : w.cell? ⟨g, 1, none⟩ = some (.int .i64 u.at_)
  c2 : w.cell? ⟨g, 2, none⟩ = some (.int .i64 u.from_)
  c3 : w.cell? ⟨g, 3, none⟩ = some (.int .i64 u.n)
  c4 : w.cell? ⟨g, 4, none⟩ = some (.int .u64 u.v)
  c5 : w.cell? ⟨g, 5, none⟩ = some (.slice u.ba u.bn u.bc)
theorem UBox.new (w : World) (u : Us) : UBox (w.alloc (.cells #[.int .u8 u.kind, .int .i64 u.at_, .int .i64 u.from_, .int .i64 u.n, .int .u64 u.v, .slice u.ba u.bn u.bc] 40)) w.heap.size u := ⟨by go_simp, by go_simp, by go_simp, by go_simp, by go_simp, by go_simp⟩
theorem UBox.below {w w' : World} {g B : Nat} {u : Us} (h : UBox w g u) (hb : Below B w w') (hg : g < B) : UBox w' g u :=
  ⟨(hb.cell (p := ⟨g, 0, none⟩) hg).trans h.c0, (hb.cell (p := ⟨g, 1, none⟩) hg).trans h.c1, (hb.cell (p := ⟨g, 2, none⟩) hg).trans h.c2, (hb.cell (p := ⟨g, 3, none⟩) hg).trans h.c3, (hb.cell (p := ⟨g, 4, none⟩) hg).trans h.c4, (hb.cell (p := ⟨g, 5, none⟩) hg).trans h.c5⟩
end Go.Proofs.Ytnopeifgcpibaaa
