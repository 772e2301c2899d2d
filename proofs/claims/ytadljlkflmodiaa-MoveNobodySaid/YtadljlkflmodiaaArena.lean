/-
  Package arena, its ground: whom an arena charges ('Mo'), what an arena is in memory ('Ar'), and the contracts of within, New, Len, part, word.
-/
import Derived.Test.YtadljlkflmodiaaMeter
import Derived.Test.YtadljlkflmodiaaBytes
import Derived.OwnWalk
namespace Go.Proofs.Ytadljlkflmodiaa
open Go.ChangeShapes Go.WideShapes Go.ChangeAt Go.RowKit

/-- A meter's address, or nil. -/
def ad (m : Option Nat) : Option Addr := m.map fun g => ⟨g, 0, none⟩
/-- Whom an arena charges: nobody, or a meter that counts t. -/
def Mo (w : World) (m : Option Nat) (t l : Int) : Prop := ∀ g, m = some g → Mt w g t l
theorem Mo.but {S : Nat → Prop} {w w' : World} {m : Option Nat} {t l : Int} (h : Mo w m t l) (hb : But S w w') (hn : ∀ g, m = some g → ¬ S g) : Mo w' m t l := fun g e => (h g e).but hb (hn g e)
theorem Mo.nobody (w : World) (t l : Int) : Mo w none t l := fun _ e => by cases e
theorem Mo.one {w : World} {g : Nat} {t l : Int} (h : Mt w g t l) : Mo w (some g) t l := fun _ e => by cases e; exact h

theorem charge_m (m : Option Nat) (t l n : Int) (w : World) (h : Mo w m t l) :
    Calls Try.prog 26 #[.pointer (ad m), .int .i64 n] w fun e w' => e = .returned (.tuple #[]) ∧ Mo w' m (more t n) l ∧ But (fun i => m = some i) w w' := by
  cases m with
  | none =>
    refine (charge_nil n w).mono ?_
    rintro e w' ⟨rfl, rfl⟩
    exact ⟨rfl, Mo.nobody _ _ _, But.refl _ _⟩
  | some g =>
    refine (charge_any g t l n w (h g rfl)).mono ?_
    rintro e w' ⟨rfl, hm, hb⟩
    exact ⟨rfl, Mo.one hm, hb.mono fun i _ e => by rw [e]⟩

/-- Block p is an arena of the bytes xs, which lie in block b; it charges m. -/
structure Ar (w : World) (p b : Nat) (m : Option Nat) (xs : List Int) (t l : Int) : Prop where
  bytes : w.cell? ⟨p, 0, none⟩ = some (.slice (some ⟨b, 0, none⟩) xs.length xs.length)
  charge : w.cell? ⟨p, 1, none⟩ = some (.func (.func 26) #[.pointer (ad m)] #[])
  row : Row w b xs
  mo : Mo w m t l
  pb : p ≠ b
  mp : m ≠ some p
  mb : m ≠ some b
/-- What a use may turn: the bytes, and the meter. -/
def Mine (b : Nat) (m : Option Nat) (i : Nat) : Prop := i = b ∨ m = some i
section
variable {w w' : World} {p b : Nat} {m : Option Nat} {xs : List Int} {t l : Int}
theorem Ar.size (h : Ar w p b m xs t l) : p < w.heap.size := lt_of_cell (p := ⟨p, 0, none⟩) h.bytes
theorem Ar.max (h : Ar w p b m xs t l) : xs.length ≤ 4194304 := h.row.max
theorem Ar.but {S : Nat → Prop} (h : Ar w p b m xs t l) (hb : But S w w') (hp : ¬ S p) (hn : ¬ S b) (hm : ∀ g, m = some g → ¬ S g) : Ar w' p b m xs t l :=
  ⟨(hb.cell (p := ⟨p, 0, none⟩) h.size hp).trans h.bytes, (hb.cell (p := ⟨p, 1, none⟩) h.size hp).trans h.charge, h.row.but hb hn, h.mo.but hb hm, h.pb, h.mp, h.mb⟩
theorem Ar.below (h : Ar w p b m xs t l) (hb : Below w.heap.size w w') : Ar w' p b m xs t l := h.but (Below.but hb fun _ => False) id id fun _ _ => id
theorem Ar.drewN (h : Ar w p b m xs t l) (k : Nat) : Ar (w.drewN k) p b m xs t l := h.but ((But.refl (fun _ => False) w).drewN k) id id fun _ _ => id
/-- Behind a charge. -/
theorem Ar.charged (h : Ar w p b m xs t l) {t' : Int} (hm : Mo w' m t' l) (hb : But (fun i => m = some i) w w') : Ar w' p b m xs t' l :=
  ⟨(hb.cell (p := ⟨p, 0, none⟩) h.size h.mp).trans h.bytes, (hb.cell (p := ⟨p, 1, none⟩) h.size h.mp).trans h.charge, h.row.but hb h.mb, hm, h.pb, h.mp, h.mb⟩
/-- Behind bytes that are laid. -/
theorem Ar.laid (h : Ar w p b m xs t l) {ys : List Int} (hl : ys.length = xs.length) (hr : Row w' b ys) (hb : But (· = b) w w') : Ar w' p b m ys t l :=
  ⟨by rw [hl]; exact (hb.cell (p := ⟨p, 0, none⟩) h.size h.pb).trans h.bytes, (hb.cell (p := ⟨p, 1, none⟩) h.size h.pb).trans h.charge, hr, h.mo.but hb (fun g e q => h.mb (by rw [e, q])), h.pb, h.mp, h.mb⟩
theorem Ar.mine {B : Nat} (hb : But (Mine b m) w w') (hB : B ≤ w.heap.size) (h1 : B ≤ b) (h2 : ∀ g, m = some g → B ≤ g) : Below B w w' :=
  hb.below hB fun k hk s => by
    rcases s with rfl | e
    · omega
    · have := h2 k e; omega
theorem But.mineC (hb : But (fun i => m = some i) w w') (b : Nat) : But (Mine b m) w w' := hb.mono fun _ _ e => Or.inr e
theorem But.mineB (hb : But (· = b) w w') (m : Option Nat) : But (Mine b m) w w' := hb.mono fun _ _ e => Or.inl e
end

theorem within_any (n a c : Int) (w : World) :
    Calls Try.prog 25 #[.int .i64 n, .int .i64 a, .int .i64 c] w (B1 (decide (a ≤ n) && decide (n ≤ c)) w) := by
  by_cases h1 : a ≤ n
  · have d1 : decide (a ≤ n) = true := by simp [h1]
    go_enter Try.func25, Try.ntmps25
    go_wp2
    go_ret
    refine ⟨?_, rfl⟩
    simp [h1]
  · have d1 : decide (a ≤ n) = false := by simp [h1]
    go_enter Try.func25, Try.ntmps25
    go_wp2
    go_ret
    refine ⟨?_, rfl⟩
    simp

/-- Pages and size that may be. -/
def may (pages size : Int) : Prop := 1 ≤ pages ∧ pages ≤ 1024 ∧ 64 ≤ size ∧ size ≤ 4096 ∧ size % 8 = 0
instance (a b : Int) : Decidable (may a b) := inferInstanceAs (Decidable (_ ∧ _ ∧ _ ∧ _ ∧ _))

theorem arenaNew_bad (pages size : Int) (q : Option Addr) (w : World) (h : ¬ may pages size) :
    Calls Try.prog 11 #[.int .i64 pages, .int .i64 size, .pointer q] w fun e w' => e = .returned (.tuple #[.pointer none, .int .i64 1]) ∧ w = w' := by
  cases d1 : (decide ((1 : Int) ≤ pages) && decide (pages ≤ 1024)) with
  | false =>
    go_enter Try.func11, Try.ntmps11
    go_wp2_with fail
    refine (within_any pages 1 1024 w).mono ?_
    rw [d1]
    rintro e w' ⟨rfl, rfl⟩
    go_wp2
    go_ret2
    exact ⟨rfl, rfl⟩
  | true =>
    cases d2 : (decide ((64 : Int) ≤ size) && decide (size ≤ 4096)) with
    | false =>
      go_enter Try.func11, Try.ntmps11
      go_wp2_with fail
      refine (within_any pages 1 1024 w).mono ?_
      rw [d1]
      rintro e w' ⟨rfl, rfl⟩
      go_wp2_with fail
      refine (within_any size 64 4096 w).mono ?_
      rw [d2]
      rintro e w' ⟨rfl, rfl⟩
      go_wp2
      go_ret2
      exact ⟨rfl, rfl⟩
    | true =>
      simp at d1 d2
      have e3 : (size.tmod 8 == 0) = false := by
        have : ¬ size % 8 = 0 := fun q => h ⟨d1.1, d1.2, d2.1, d2.2, q⟩
        rw [Int.tmod_eq_emod_of_nonneg (by omega)]
        simpa using this
      have e1 : (decide ((1 : Int) ≤ pages) && decide (pages ≤ 1024)) = true := by simp [d1]
      have e2 : (decide ((64 : Int) ≤ size) && decide (size ≤ 4096)) = true := by simp [d2]
      clear h d1 d2
      go_enter Try.func11, Try.ntmps11
      go_wp2_with fail
      refine (within_any pages 1 1024 w).mono ?_
      rw [e1]
      rintro e w' ⟨rfl, rfl⟩
      go_wp2_with fail
      refine (within_any size 64 4096 w).mono ?_
      rw [e2]
      rintro e w' ⟨rfl, rfl⟩
      go_wp2
      go_ret2
      exact ⟨rfl, rfl⟩

theorem may_prod {a b : Nat} (h : may (a : Int) (b : Int)) : a * b ≤ 4194304 ∧ 64 ≤ a * b := by
  obtain ⟨h1, h2, h3, h4, _⟩ := h
  exact ⟨Nat.le_trans (Nat.mul_le_mul (by omega : a ≤ 1024) (by omega : b ≤ 4096)) (by omega), Nat.le_trans (by omega : 64 ≤ 1 * 64) (Nat.mul_le_mul (by omega) (by omega))⟩

theorem arenaNew_ok (pages size : Nat) (m : Option Nat) (t l : Int) (w : World) (h : may pages size) (hm : Mo w m t l) (hs : ∀ g, m = some g → g < w.heap.size) :
    Calls Try.prog 11 #[.int .i64 pages, .int .i64 size, .pointer (ad m)] w fun e w' => ∃ p b, e = .returned (.tuple #[.pointer (some ⟨p, 0, none⟩), .int .i64 0]) ∧ Ar w' p b m (List.replicate (pages * size) 0) t l ∧ Below w.heap.size w w' ∧ w.heap.size ≤ p ∧ w.heap.size ≤ b := by
  have hmf : ∀ (fn : Fn) (first cap : Array Value) (w : World), (Instr.makeFunc fn first cap).run Try.prog w = .ok (.func fn first cap) w := fun _ _ _ _ => rfl
  obtain ⟨n, hn⟩ : ∃ n, n = pages * size := ⟨_, rfl⟩
  have hp := may_prod h
  obtain ⟨h1, h2, h3, h4, h5⟩ := h
  have e1 : (decide ((1 : Int) ≤ (pages : Int)) && decide ((pages : Int) ≤ 1024)) = true := by simp; omega
  have e2 : (decide ((64 : Int) ≤ (size : Int)) && decide ((size : Int) ≤ 4096)) = true := by simp; omega
  have e3 : ((size : Int) % 8 != 0) = false := by simp [h5]
  rw [← hn]
  rw [← hn] at hp
  have hc : (pages : Int) * (size : Int) = (n : Int) := by rw [hn]; simp
  have hw : IntKind.i64.wrap ((pages : Int) * (size : Int)) = (n : Int) := by rw [hc]; exact IntWalk.i64_in _ (by omega)
  have hmk : ∀ v, (Instr.makeSlice 22 (.int .i64 (n : Int)) (.int .i64 (n : Int))).run Try.prog v = .ok (.slice (some ⟨v.heap.size, 0, none⟩) n n) (v.alloc (zeros n)) := make_run n hp.1
  have HP := Lib.hid hp
  clear hn h1 h2 h3 h4 h5 hp hc
  go_enter Try.func11, Try.ntmps11
  go_wp2_with fail
  refine (within_any pages 1 1024 w).mono ?_
  rw [e1]
  rintro e w' ⟨rfl, rfl⟩
  go_wp2_with fail
  refine (within_any size 64 4096 w).mono ?_
  rw [e2]
  rintro e w' ⟨rfl, rfl⟩
  go_wp2
  go_ret2
  have hb := below2 w (zeros n) (.cells #[.slice (some ⟨w.heap.size, 0, none⟩) n n, .func (.func 26) #[.pointer (ad m)] #[]] 67)
  refine ⟨w.heap.size + 1, w.heap.size, rfl, ⟨?_, ?_, ?_, hm.but (Below.but hb fun _ => False) (fun _ _ => id), by omega, fun e => ?_, fun e => ?_⟩, hb, by omega, by omega⟩
  · go_simp
  · go_simp
  · exact (zeros_row w n HP.out.1).below (below1 _ _)
  · have := hs _ e; omega
  · have := hs _ e; omega
end Go.Proofs.Ytadljlkflmodiaa
