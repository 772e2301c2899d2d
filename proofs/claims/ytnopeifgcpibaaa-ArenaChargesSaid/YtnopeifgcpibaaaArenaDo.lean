/-
  The law's own 'do' (a use of an arena), met by one contract: what it tells, what is wrong, what it lays and charges, as one plain function ('useOut').
-/
import Derived.Test.YtnopeifgcpibaaaArenaMade
import Derived.Test.YtnopeifgcpibaaaBytesOpen
namespace Go.Proofs.Ytnopeifgcpibaaa
open Go.ChangeShapes Go.WideShapes Go.ChangeAt Go.RowKit

/-- What a use comes to: bytes told, a word told, what is wrong, the bytes behind it, the steps. -/
structure Out where
  told : List Int
  word : Int
  err : Int
  xs : List Int
  steps : Int
def useOut (u : Us) (xs : List Int) : Out :=
  if u.kind % 6 = 0 then (if thereB xs.length u.at_ u.n then ⟨sub xs u.at_.toNat u.n.toNat, 0, 0, xs, u.n⟩ else ⟨[], 0, 8, xs, 0⟩)
  else if u.kind % 6 = 1 then (if thereB xs.length u.at_ u.bn then ⟨[], 0, 0, splice xs u.at_.toNat u.bs, u.bn⟩ else ⟨[], 0, 8, xs, 0⟩)
  else if u.kind % 6 = 2 then (if thereB xs.length u.at_ u.n then ⟨[], 0, 0, splice xs u.at_.toNat (List.replicate u.n.toNat (u.v % 256)), u.n⟩ else ⟨[], 0, 8, xs, 0⟩)
  else if u.kind % 6 = 3 then (if thereB xs.length u.from_ u.n ∧ thereB xs.length u.at_ u.n then ⟨[], 0, 0, splice xs u.at_.toNat (sub xs u.from_.toNat u.n.toNat), u.n⟩ else ⟨[], 0, 8, xs, 0⟩)
  else if u.kind % 6 = 4 then (if wordErr xs.length u.at_ = 0 then ⟨[], wordOf (sub xs u.at_.toNat 8), 0, xs, 1⟩ else ⟨[], 0, wordErr xs.length u.at_, xs, 0⟩)
  else (if wordErr xs.length u.at_ = 0 then ⟨[], 0, 0, splice xs u.at_.toNat (bytesOf 8 u.v), 1⟩ else ⟨[], 0, wordErr xs.length u.at_, xs, 0⟩)
theorem more_zero (t : Int) : more t 0 = t := by simp [more]
theorem wordErr_zero {len : Nat} {a : Int} (h : wordErr len a = 0) : thereB len a 8 ∧ a % 8 = 0 := by
  unfold wordErr at h
  split at h
  · rename_i ht
    split at h
    · rename_i hm; exact ⟨ht, hm⟩
    · omega
  · omega

section
variable {w : World} {p b : Nat} {m : Option Nat} {xs : List Int} {t l : Int}
/-- How 'do' ends. -/
def DoEnds (p b : Nat) (m : Option Nat) (t l : Int) (o : Out) (w : World) (e : Ending) (w' : World) : Prop :=
  ∃ (a : Option Addr) (n c : Nat), e = .returned (.tuple #[.slice a n c, .int .u64 o.word, .int .i64 o.err]) ∧ Bytes w' w'.heap.size a n o.told ∧ Ar w' p b m o.xs (more t o.steps) l ∧ But (Mine b m) w w' ∧ (0 < n → ∃ f o1, a = some ⟨f, o1, none⟩ ∧ w.heap.size ≤ f)
theorem do0_ok (h : Ar w p b m xs t l) (kind at_ from_ n v : Int) (ba : Option Addr) (bn bc : Nat) (hk : 0 ≤ kind ∧ kind ≤ 255) (hr : kind % 6 = 0) (ht : thereB xs.length at_ n) :
    Calls Try.prog 13 #[.pointer (some ⟨p, 0, none⟩), .agg #[.int .u8 kind, .int .i64 at_, .int .i64 from_, .int .i64 n, .int .u64 v, .slice ba bn bc]] w (DoEnds p b m t l ⟨sub xs at_.toNat n.toNat, 0, 0, xs, n⟩ w) := by
  have hr2 : kind.tmod 6 = 0 := by rw [Int.tmod_eq_emod_of_nonneg (by omega)]; exact hr
  have A0 := Lib.hid (h.below (below1 w (.cells #[.int .u8 kind, .int .i64 at_, .int .i64 from_, .int .i64 n, .int .u64 v, .slice ba bn bc] 40)))
  have B0 := Lib.hid ((But.refl (Mine b m) w).alloc (.cells #[.int .u8 kind, .int .i64 at_, .int .i64 from_, .int .i64 n, .int .u64 v, .slice ba bn bc] 40))
  obtain ⟨a, rfl⟩ : ∃ a : Nat, at_ = (a : Int) := ⟨at_.toNat, by have := ht.1; omega⟩
  obtain ⟨k, rfl⟩ : ∃ k : Nat, n = (k : Int) := ⟨n.toNat, by have := ht.2.1; omega⟩
  have HC := Lib.hid (read_ok A0.out a k (by have := ht.2.2; omega))
  clear h hk
  go_enter Try.func13, Try.ntmps13
  go_wp2_with fail
  refine HC.out.mono ?_
  rintro e w1 ⟨g, rfl, r1, a1, b1, hg⟩
  have HA := Lib.hid a1
  have HB := Lib.hid b1
  have HR := Lib.hid (r1.all (length_sub xs a k (by have := ht.2.2; omega)))
  have HG : Hid (w.heap.size ≤ g) := Lib.hid (by simp at hg; omega)
  clear a1 b1 r1 hg HC
  go_wp2
  go_ret3
  exact ⟨_, _, _, rfl, HR.out, HA.out, B0.out.trans HB.out, fun _ => ⟨_, _, rfl, HG.out⟩⟩

theorem do0_bad (h : Ar w p b m xs t l) (kind at_ from_ n v : Int) (ba : Option Addr) (bn bc : Nat) (hk : 0 ≤ kind ∧ kind ≤ 255) (hr : kind % 6 = 0) (ha : -9223372036854775808 ≤ at_ ∧ at_ ≤ 9223372036854775807) (ht : ¬ thereB xs.length at_ n) :
    Calls Try.prog 13 #[.pointer (some ⟨p, 0, none⟩), .agg #[.int .u8 kind, .int .i64 at_, .int .i64 from_, .int .i64 n, .int .u64 v, .slice ba bn bc]] w (DoEnds p b m t l ⟨[], 0, 8, xs, 0⟩ w) := by
  have hr2 : kind.tmod 6 = 0 := by rw [Int.tmod_eq_emod_of_nonneg (by omega)]; exact hr
  have A0 := Lib.hid (h.below (below1 w (.cells #[.int .u8 kind, .int .i64 at_, .int .i64 from_, .int .i64 n, .int .u64 v, .slice ba bn bc] 40)))
  have B0 := Lib.hid ((But.refl (Mine b m) w).alloc (.cells #[.int .u8 kind, .int .i64 at_, .int .i64 from_, .int .i64 n, .int .u64 v, .slice ba bn bc] 40))
  have HC := Lib.hid (read_bad A0.out at_ n ha ht)
  clear h hk ha ht
  go_enter Try.func13, Try.ntmps13
  go_wp2_with fail
  refine HC.out.mono ?_
  rintro e w1 ⟨rfl, rfl⟩
  clear HC
  go_wp2
  go_ret3
  exact ⟨none, 0, 0, rfl, Bytes.zero _ _ _, by rw [more_zero]; exact A0.out, B0.out, fun h => absurd h (by omega)⟩

theorem do1_ok (h : Ar w p b m xs t l) (kind at_ from_ n v : Int) (ba : Option Addr) (bn bc : Nat) (bs : List Int) (B : Nat) (hk : 0 ≤ kind ∧ kind ≤ 255) (hr : kind % 6 = 1) (hy : ∀ w', But (fun i => m = some i) (w.alloc (.cells #[.int .u8 kind, .int .i64 at_, .int .i64 from_, .int .i64 n, .int .u64 v, .slice ba bn bc] 40)) w' → Bytes w' B ba bn bs) (ht : thereB xs.length at_ bn) :
    Calls Try.prog 13 #[.pointer (some ⟨p, 0, none⟩), .agg #[.int .u8 kind, .int .i64 at_, .int .i64 from_, .int .i64 n, .int .u64 v, .slice ba bn bc]] w (DoEnds p b m t l ⟨[], 0, 0, splice xs at_.toNat bs, bn⟩ w) := by
  have hr2 : kind.tmod 6 = 1 := by rw [Int.tmod_eq_emod_of_nonneg (by omega)]; exact hr
  have A0 := Lib.hid (h.below (below1 w (.cells #[.int .u8 kind, .int .i64 at_, .int .i64 from_, .int .i64 n, .int .u64 v, .slice ba bn bc] 40)))
  have B0 := Lib.hid ((But.refl (Mine b m) w).alloc (.cells #[.int .u8 kind, .int .i64 at_, .int .i64 from_, .int .i64 n, .int .u64 v, .slice ba bn bc] 40))
  obtain ⟨a, rfl⟩ : ∃ a : Nat, at_ = (a : Int) := ⟨at_.toNat, by have := ht.1; omega⟩
  have HC := Lib.hid (write_ok A0.out a ba bn bc B bs hy (by have := ht.2.2; omega))
  clear h hk hy
  go_enter Try.func13, Try.ntmps13
  go_wp2_with fail
  refine HC.out.mono ?_
  rintro e w1 ⟨rfl, a1, b1⟩
  have HA := Lib.hid a1
  have HB := Lib.hid b1
  clear a1 b1 HC
  go_wp2
  go_ret3
  exact ⟨none, 0, 0, rfl, Bytes.zero _ _ _, HA.out, B0.out.trans HB.out, fun h => absurd h (by omega)⟩

theorem do1_bad (h : Ar w p b m xs t l) (kind at_ from_ n v : Int) (ba : Option Addr) (bn bc : Nat) (hk : 0 ≤ kind ∧ kind ≤ 255) (hr : kind % 6 = 1) (ha : -9223372036854775808 ≤ at_ ∧ at_ ≤ 9223372036854775807) (hl : bn ≤ 9223372036854775807) (ht : ¬ thereB xs.length at_ bn) :
    Calls Try.prog 13 #[.pointer (some ⟨p, 0, none⟩), .agg #[.int .u8 kind, .int .i64 at_, .int .i64 from_, .int .i64 n, .int .u64 v, .slice ba bn bc]] w (DoEnds p b m t l ⟨[], 0, 8, xs, 0⟩ w) := by
  have hr2 : kind.tmod 6 = 1 := by rw [Int.tmod_eq_emod_of_nonneg (by omega)]; exact hr
  have A0 := Lib.hid (h.below (below1 w (.cells #[.int .u8 kind, .int .i64 at_, .int .i64 from_, .int .i64 n, .int .u64 v, .slice ba bn bc] 40)))
  have B0 := Lib.hid ((But.refl (Mine b m) w).alloc (.cells #[.int .u8 kind, .int .i64 at_, .int .i64 from_, .int .i64 n, .int .u64 v, .slice ba bn bc] 40))
  have HC := Lib.hid (write_bad A0.out at_ ba bn bc ha hl ht)
  clear h hk ha ht
  go_enter Try.func13, Try.ntmps13
  go_wp2_with fail
  refine HC.out.mono ?_
  rintro e w1 ⟨rfl, rfl⟩
  clear HC
  go_wp2
  go_ret3
  exact ⟨none, 0, 0, rfl, Bytes.zero _ _ _, by rw [more_zero]; exact A0.out, B0.out, fun h => absurd h (by omega)⟩

theorem do2_ok (h : Ar w p b m xs t l) (kind at_ from_ n v : Int) (ba : Option Addr) (bn bc : Nat) (hk : 0 ≤ kind ∧ kind ≤ 255) (hr : kind % 6 = 2) (ht : thereB xs.length at_ n) :
    Calls Try.prog 13 #[.pointer (some ⟨p, 0, none⟩), .agg #[.int .u8 kind, .int .i64 at_, .int .i64 from_, .int .i64 n, .int .u64 v, .slice ba bn bc]] w (DoEnds p b m t l ⟨[], 0, 0, splice xs at_.toNat (List.replicate n.toNat (v % 256)), n⟩ w) := by
  have hr2 : kind.tmod 6 = 2 := by rw [Int.tmod_eq_emod_of_nonneg (by omega)]; exact hr
  have A0 := Lib.hid (h.below (below1 w (.cells #[.int .u8 kind, .int .i64 at_, .int .i64 from_, .int .i64 n, .int .u64 v, .slice ba bn bc] 40)))
  have B0 := Lib.hid ((But.refl (Mine b m) w).alloc (.cells #[.int .u8 kind, .int .i64 at_, .int .i64 from_, .int .i64 n, .int .u64 v, .slice ba bn bc] 40))
  obtain ⟨a, rfl⟩ : ∃ a : Nat, at_ = (a : Int) := ⟨at_.toNat, by have := ht.1; omega⟩
  obtain ⟨k, rfl⟩ : ∃ k : Nat, n = (k : Int) := ⟨n.toNat, by have := ht.2.1; omega⟩
  have HC := Lib.hid (fill_ok A0.out a k (v % 256) (by have := ht.2.2; omega) (by omega) (by omega))
  clear h hk
  go_enter Try.func13, Try.ntmps13
  go_wp2_with fail
  refine HC.out.mono ?_
  rintro e w1 ⟨rfl, a1, b1⟩
  have HA := Lib.hid a1
  have HB := Lib.hid b1
  clear a1 b1 HC
  go_wp2
  go_ret3
  exact ⟨none, 0, 0, rfl, Bytes.zero _ _ _, HA.out, B0.out.trans HB.out, fun h => absurd h (by omega)⟩

theorem do2_bad (h : Ar w p b m xs t l) (kind at_ from_ n v : Int) (ba : Option Addr) (bn bc : Nat) (hk : 0 ≤ kind ∧ kind ≤ 255) (hr : kind % 6 = 2) (ha : -9223372036854775808 ≤ at_ ∧ at_ ≤ 9223372036854775807) (ht : ¬ thereB xs.length at_ n) :
    Calls Try.prog 13 #[.pointer (some ⟨p, 0, none⟩), .agg #[.int .u8 kind, .int .i64 at_, .int .i64 from_, .int .i64 n, .int .u64 v, .slice ba bn bc]] w (DoEnds p b m t l ⟨[], 0, 8, xs, 0⟩ w) := by
  have hr2 : kind.tmod 6 = 2 := by rw [Int.tmod_eq_emod_of_nonneg (by omega)]; exact hr
  have A0 := Lib.hid (h.below (below1 w (.cells #[.int .u8 kind, .int .i64 at_, .int .i64 from_, .int .i64 n, .int .u64 v, .slice ba bn bc] 40)))
  have B0 := Lib.hid ((But.refl (Mine b m) w).alloc (.cells #[.int .u8 kind, .int .i64 at_, .int .i64 from_, .int .i64 n, .int .u64 v, .slice ba bn bc] 40))
  have HC := Lib.hid (fill_bad A0.out at_ n (v % 256) ha ht)
  clear h hk ha ht
  go_enter Try.func13, Try.ntmps13
  go_wp2_with fail
  refine HC.out.mono ?_
  rintro e w1 ⟨rfl, rfl⟩
  clear HC
  go_wp2
  go_ret3
  exact ⟨none, 0, 0, rfl, Bytes.zero _ _ _, by rw [more_zero]; exact A0.out, B0.out, fun h => absurd h (by omega)⟩

theorem do3_ok (h : Ar w p b m xs t l) (kind at_ from_ n v : Int) (ba : Option Addr) (bn bc : Nat) (hk : 0 ≤ kind ∧ kind ≤ 255) (hr : kind % 6 = 3) (hs : thereB xs.length from_ n) (ht : thereB xs.length at_ n) :
    Calls Try.prog 13 #[.pointer (some ⟨p, 0, none⟩), .agg #[.int .u8 kind, .int .i64 at_, .int .i64 from_, .int .i64 n, .int .u64 v, .slice ba bn bc]] w (DoEnds p b m t l ⟨[], 0, 0, splice xs at_.toNat (sub xs from_.toNat n.toNat), n⟩ w) := by
  have hr2 : kind.tmod 6 = 3 := by rw [Int.tmod_eq_emod_of_nonneg (by omega)]; exact hr
  have A0 := Lib.hid (h.below (below1 w (.cells #[.int .u8 kind, .int .i64 at_, .int .i64 from_, .int .i64 n, .int .u64 v, .slice ba bn bc] 40)))
  have B0 := Lib.hid ((But.refl (Mine b m) w).alloc (.cells #[.int .u8 kind, .int .i64 at_, .int .i64 from_, .int .i64 n, .int .u64 v, .slice ba bn bc] 40))
  obtain ⟨a, rfl⟩ : ∃ a : Nat, at_ = (a : Int) := ⟨at_.toNat, by have := ht.1; omega⟩
  obtain ⟨k, rfl⟩ : ∃ k : Nat, n = (k : Int) := ⟨n.toNat, by have := ht.2.1; omega⟩
  obtain ⟨f, rfl⟩ : ∃ f : Nat, from_ = (f : Int) := ⟨from_.toNat, by have := hs.1; omega⟩
  have HC := Lib.hid (copy_ok A0.out a f k (by have := ht.2.2; omega) (by have := hs.2.2; omega))
  clear h hk
  go_enter Try.func13, Try.ntmps13
  go_wp2_with fail
  refine HC.out.mono ?_
  rintro e w1 ⟨rfl, a1, b1⟩
  have HA := Lib.hid a1
  have HB := Lib.hid b1
  clear a1 b1 HC
  go_wp2
  go_ret3
  exact ⟨none, 0, 0, rfl, Bytes.zero _ _ _, HA.out, B0.out.trans HB.out, fun h => absurd h (by omega)⟩

theorem do3_bad (h : Ar w p b m xs t l) (kind at_ from_ n v : Int) (ba : Option Addr) (bn bc : Nat) (hk : 0 ≤ kind ∧ kind ≤ 255) (hr : kind % 6 = 3) (ha : -9223372036854775808 ≤ at_ ∧ at_ ≤ 9223372036854775807) (hf : -9223372036854775808 ≤ from_ ∧ from_ ≤ 9223372036854775807) (ht : ¬ (thereB xs.length from_ n ∧ thereB xs.length at_ n)) :
    Calls Try.prog 13 #[.pointer (some ⟨p, 0, none⟩), .agg #[.int .u8 kind, .int .i64 at_, .int .i64 from_, .int .i64 n, .int .u64 v, .slice ba bn bc]] w (DoEnds p b m t l ⟨[], 0, 8, xs, 0⟩ w) := by
  have hr2 : kind.tmod 6 = 3 := by rw [Int.tmod_eq_emod_of_nonneg (by omega)]; exact hr
  have A0 := Lib.hid (h.below (below1 w (.cells #[.int .u8 kind, .int .i64 at_, .int .i64 from_, .int .i64 n, .int .u64 v, .slice ba bn bc] 40)))
  have B0 := Lib.hid ((But.refl (Mine b m) w).alloc (.cells #[.int .u8 kind, .int .i64 at_, .int .i64 from_, .int .i64 n, .int .u64 v, .slice ba bn bc] 40))
  have HC := Lib.hid (copy_bad A0.out at_ from_ n ha hf ht)
  clear h hk ha hf ht
  go_enter Try.func13, Try.ntmps13
  go_wp2_with fail
  refine HC.out.mono ?_
  rintro e w1 ⟨rfl, rfl⟩
  clear HC
  go_wp2
  go_ret3
  exact ⟨none, 0, 0, rfl, Bytes.zero _ _ _, by rw [more_zero]; exact A0.out, B0.out, fun h => absurd h (by omega)⟩

theorem do4_ok (h : Ar w p b m xs t l) (kind at_ from_ n v : Int) (ba : Option Addr) (bn bc : Nat) (hk : 0 ≤ kind ∧ kind ≤ 255) (hr : kind % 6 = 4) (hz : wordErr xs.length at_ = 0) :
    Calls Try.prog 13 #[.pointer (some ⟨p, 0, none⟩), .agg #[.int .u8 kind, .int .i64 at_, .int .i64 from_, .int .i64 n, .int .u64 v, .slice ba bn bc]] w (DoEnds p b m t l ⟨[], wordOf (sub xs at_.toNat 8), 0, xs, 1⟩ w) := by
  have hr2 : kind.tmod 6 = 4 := by rw [Int.tmod_eq_emod_of_nonneg (by omega)]; exact hr
  have A0 := Lib.hid (h.below (below1 w (.cells #[.int .u8 kind, .int .i64 at_, .int .i64 from_, .int .i64 n, .int .u64 v, .slice ba bn bc] 40)))
  have B0 := Lib.hid ((But.refl (Mine b m) w).alloc (.cells #[.int .u8 kind, .int .i64 at_, .int .i64 from_, .int .i64 n, .int .u64 v, .slice ba bn bc] 40))
  obtain ⟨ht, h8⟩ := wordErr_zero hz
  obtain ⟨a, rfl⟩ : ∃ a : Nat, at_ = (a : Int) := ⟨at_.toNat, by have := ht.1; omega⟩
  have HC := Lib.hid (load_ok A0.out a (by have := ht.2.2; omega) (by omega))
  clear h hk hz h8
  go_enter Try.func13, Try.ntmps13
  go_wp2_with fail
  refine HC.out.mono ?_
  rintro e w1 ⟨rfl, a1, b1⟩
  have HA := Lib.hid a1
  have HB := Lib.hid b1
  clear a1 b1 HC
  go_wp2
  go_ret3
  exact ⟨none, 0, 0, rfl, Bytes.zero _ _ _, HA.out, B0.out.trans HB.out, fun h => absurd h (by omega)⟩

theorem do4_bad (h : Ar w p b m xs t l) (kind at_ from_ n v : Int) (ba : Option Addr) (bn bc : Nat) (hk : 0 ≤ kind ∧ kind ≤ 255) (hr : kind % 6 = 4) (ha : -9223372036854775808 ≤ at_ ∧ at_ ≤ 9223372036854775807) (hz : wordErr xs.length at_ ≠ 0) :
    Calls Try.prog 13 #[.pointer (some ⟨p, 0, none⟩), .agg #[.int .u8 kind, .int .i64 at_, .int .i64 from_, .int .i64 n, .int .u64 v, .slice ba bn bc]] w (DoEnds p b m t l ⟨[], 0, wordErr xs.length at_, xs, 0⟩ w) := by
  have hr2 : kind.tmod 6 = 4 := by rw [Int.tmod_eq_emod_of_nonneg (by omega)]; exact hr
  have A0 := Lib.hid (h.below (below1 w (.cells #[.int .u8 kind, .int .i64 at_, .int .i64 from_, .int .i64 n, .int .u64 v, .slice ba bn bc] 40)))
  have B0 := Lib.hid ((But.refl (Mine b m) w).alloc (.cells #[.int .u8 kind, .int .i64 at_, .int .i64 from_, .int .i64 n, .int .u64 v, .slice ba bn bc] 40))
  have HC := Lib.hid (load_bad A0.out at_ ha hz)
  generalize wordErr xs.length at_ = q at HC hz ⊢
  clear h hk ha hz
  go_enter Try.func13, Try.ntmps13
  go_wp2_with fail
  refine HC.out.mono ?_
  rintro e w1 ⟨rfl, rfl⟩
  clear HC
  go_wp2
  go_ret3
  exact ⟨none, 0, 0, rfl, Bytes.zero _ _ _, by rw [more_zero]; exact A0.out, B0.out, fun h => absurd h (by omega)⟩

theorem do5_ok (h : Ar w p b m xs t l) (kind at_ from_ n v : Int) (ba : Option Addr) (bn bc : Nat) (hk : 0 ≤ kind ∧ kind ≤ 255) (hr : kind % 6 = 5) (v0 : 0 ≤ v) (v1 : v ≤ 18446744073709551615) (hz : wordErr xs.length at_ = 0) :
    Calls Try.prog 13 #[.pointer (some ⟨p, 0, none⟩), .agg #[.int .u8 kind, .int .i64 at_, .int .i64 from_, .int .i64 n, .int .u64 v, .slice ba bn bc]] w (DoEnds p b m t l ⟨[], 0, 0, splice xs at_.toNat (bytesOf 8 v), 1⟩ w) := by
  have hr2 : kind.tmod 6 = 5 := by rw [Int.tmod_eq_emod_of_nonneg (by omega)]; exact hr
  have A0 := Lib.hid (h.below (below1 w (.cells #[.int .u8 kind, .int .i64 at_, .int .i64 from_, .int .i64 n, .int .u64 v, .slice ba bn bc] 40)))
  have B0 := Lib.hid ((But.refl (Mine b m) w).alloc (.cells #[.int .u8 kind, .int .i64 at_, .int .i64 from_, .int .i64 n, .int .u64 v, .slice ba bn bc] 40))
  obtain ⟨ht, h8⟩ := wordErr_zero hz
  obtain ⟨a, rfl⟩ : ∃ a : Nat, at_ = (a : Int) := ⟨at_.toNat, by have := ht.1; omega⟩
  have HC := Lib.hid (store_ok A0.out a v (by have := ht.2.2; omega) (by omega) v0 v1)
  clear h hk hz h8
  go_enter Try.func13, Try.ntmps13
  go_wp2_with fail
  refine HC.out.mono ?_
  rintro e w1 ⟨rfl, a1, b1⟩
  have HA := Lib.hid a1
  have HB := Lib.hid b1
  clear a1 b1 HC
  go_wp2
  go_ret3
  exact ⟨none, 0, 0, rfl, Bytes.zero _ _ _, HA.out, B0.out.trans HB.out, fun h => absurd h (by omega)⟩

theorem do5_bad (h : Ar w p b m xs t l) (kind at_ from_ n v : Int) (ba : Option Addr) (bn bc : Nat) (hk : 0 ≤ kind ∧ kind ≤ 255) (hr : kind % 6 = 5) (ha : -9223372036854775808 ≤ at_ ∧ at_ ≤ 9223372036854775807) (hz : wordErr xs.length at_ ≠ 0) :
    Calls Try.prog 13 #[.pointer (some ⟨p, 0, none⟩), .agg #[.int .u8 kind, .int .i64 at_, .int .i64 from_, .int .i64 n, .int .u64 v, .slice ba bn bc]] w (DoEnds p b m t l ⟨[], 0, wordErr xs.length at_, xs, 0⟩ w) := by
  have hr2 : kind.tmod 6 = 5 := by rw [Int.tmod_eq_emod_of_nonneg (by omega)]; exact hr
  have A0 := Lib.hid (h.below (below1 w (.cells #[.int .u8 kind, .int .i64 at_, .int .i64 from_, .int .i64 n, .int .u64 v, .slice ba bn bc] 40)))
  have B0 := Lib.hid ((But.refl (Mine b m) w).alloc (.cells #[.int .u8 kind, .int .i64 at_, .int .i64 from_, .int .i64 n, .int .u64 v, .slice ba bn bc] 40))
  have HC := Lib.hid (store_bad A0.out at_ v ha hz)
  generalize wordErr xs.length at_ = q at HC hz ⊢
  clear h hk ha hz
  go_enter Try.func13, Try.ntmps13
  go_wp2_with fail
  refine HC.out.mono ?_
  rintro e w1 ⟨rfl, rfl⟩
  clear HC
  go_wp2
  go_ret3
  exact ⟨none, 0, 0, rfl, Bytes.zero _ _ _, by rw [more_zero]; exact A0.out, B0.out, fun h => absurd h (by omega)⟩


theorem do_any (h : Ar w p b m xs t l) (u : Us) (B : Nat) (hu : u.Ok w B) (hB : B ≤ w.heap.size) (hm : ∀ g, m = some g → B ≤ g) :
    Calls Try.prog 13 #[.pointer (some ⟨p, 0, none⟩), .agg #[.int .u8 u.kind, .int .i64 u.at_, .int .i64 u.from_, .int .i64 u.n, .int .u64 u.v, .slice u.ba u.bn u.bc]] w (DoEnds p b m t l (useOut u xs) w) := by
  obtain ⟨kind, at_, from_, n, v, ba, bn, bc, bs⟩ := u
  obtain ⟨hk, ha, hf, hn, hv, hy, hc⟩ := hu
  simp only at hk ha hf hn hv hy hc ⊢
  have h6 : kind % 6 = 0 ∨ kind % 6 = 1 ∨ kind % 6 = 2 ∨ kind % 6 = 3 ∨ kind % 6 = 4 ∨ kind % 6 = 5 := by omega
  rcases h6 with hr | hr | hr | hr | hr | hr
  · by_cases ht : thereB xs.length at_ n
    · rw [show useOut ⟨kind, at_, from_, n, v, ba, bn, bc, bs⟩ xs = ⟨sub xs at_.toNat n.toNat, 0, 0, xs, n⟩ by simp [useOut, hr, ht]]
      exact do0_ok h kind at_ from_ n v ba bn bc hk hr ht
    · rw [show useOut ⟨kind, at_, from_, n, v, ba, bn, bc, bs⟩ xs = ⟨[], 0, 8, xs, 0⟩ by simp [useOut, hr, ht]]
      exact do0_bad h kind at_ from_ n v ba bn bc hk hr ha ht
  · by_cases ht : thereB xs.length at_ bn
    · rw [show useOut ⟨kind, at_, from_, n, v, ba, bn, bc, bs⟩ xs = ⟨[], 0, 0, splice xs at_.toNat bs, bn⟩ by simp [useOut, hr, ht]]
      exact do1_ok h kind at_ from_ n v ba bn bc bs B hk hr (fun w' hb => ((hy.alloc hB _).but hb (by simp; omega) (fun i hi e => by have := hm i e; omega))) ht
    · rw [show useOut ⟨kind, at_, from_, n, v, ba, bn, bc, bs⟩ xs = ⟨[], 0, 8, xs, 0⟩ by simp [useOut, hr, ht]]
      exact do1_bad h kind at_ from_ n v ba bn bc hk hr ha hy.max ht
  · by_cases ht : thereB xs.length at_ n
    · rw [show useOut ⟨kind, at_, from_, n, v, ba, bn, bc, bs⟩ xs = ⟨[], 0, 0, splice xs at_.toNat (List.replicate n.toNat (v % 256)), n⟩ by simp [useOut, hr, ht]]
      exact do2_ok h kind at_ from_ n v ba bn bc hk hr ht
    · rw [show useOut ⟨kind, at_, from_, n, v, ba, bn, bc, bs⟩ xs = ⟨[], 0, 8, xs, 0⟩ by simp [useOut, hr, ht]]
      exact do2_bad h kind at_ from_ n v ba bn bc hk hr ha ht
  · by_cases ht : thereB xs.length from_ n ∧ thereB xs.length at_ n
    · rw [show useOut ⟨kind, at_, from_, n, v, ba, bn, bc, bs⟩ xs = ⟨[], 0, 0, splice xs at_.toNat (sub xs from_.toNat n.toNat), n⟩ by simp [useOut, hr, ht]]
      exact do3_ok h kind at_ from_ n v ba bn bc hk hr ht.1 ht.2
    · rw [show useOut ⟨kind, at_, from_, n, v, ba, bn, bc, bs⟩ xs = ⟨[], 0, 8, xs, 0⟩ by simp only [useOut, hr, if_neg ht]; simp]
      exact do3_bad h kind at_ from_ n v ba bn bc hk hr ha hf ht
  · by_cases hz : wordErr xs.length at_ = 0
    · rw [show useOut ⟨kind, at_, from_, n, v, ba, bn, bc, bs⟩ xs = ⟨[], wordOf (sub xs at_.toNat 8), 0, xs, 1⟩ by simp [useOut, hr, hz]]
      exact do4_ok h kind at_ from_ n v ba bn bc hk hr hz
    · rw [show useOut ⟨kind, at_, from_, n, v, ba, bn, bc, bs⟩ xs = ⟨[], 0, wordErr xs.length at_, xs, 0⟩ by simp [useOut, hr, hz]]
      exact do4_bad h kind at_ from_ n v ba bn bc hk hr ha hz
  · by_cases hz : wordErr xs.length at_ = 0
    · rw [show useOut ⟨kind, at_, from_, n, v, ba, bn, bc, bs⟩ xs = ⟨[], 0, 0, splice xs at_.toNat (bytesOf 8 v), 1⟩ by simp [useOut, hr, hz]]
      exact do5_ok h kind at_ from_ n v ba bn bc hk hr hv.1 hv.2 hz
    · rw [show useOut ⟨kind, at_, from_, n, v, ba, bn, bc, bs⟩ xs = ⟨[], 0, wordErr xs.length at_, xs, 0⟩ by simp [useOut, hr, hz]]
      exact do5_bad h kind at_ from_ n v ba bn bc hk hr ha hz
end
end Go.Proofs.Ytnopeifgcpibaaa
