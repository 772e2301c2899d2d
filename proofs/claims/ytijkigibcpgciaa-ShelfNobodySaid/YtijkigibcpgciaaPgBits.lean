/-
  Package bits, its ground: what Bits are in memory ('Bm'); New, mask, already, may, Has.
-/
import Derived.Test.YtijkigibcpgciaaPgBitsNum
import Derived.Test.YtijkigibcpgciaaBut
import Derived.Test.YtijkigibcpgciaaQuietImp
import Derived.Test.YtijkigibcpgciaaRegImp
import Derived.Laws.Bits64b
import Derived.Lib.Hide
namespace Go.Proofs.Ytijkigibcpgciaa.Pg
open Go.ChangeShapes Go.WideShapes Go.ChangeAt Go.RowKit
set_option maxRecDepth 100000

/-- Block p are Bits: eight words W, and how many places there are; the words stand for L. -/
structure Bw (w : World) (p : Nat) (W : Nat → Nat) (L : List Bool) : Prop where
  c : ∀ n, n < 8 → w.cell? ⟨p, n, none⟩ = some (.int .u64 (W n : Int))
  m : w.cell? ⟨p, 8, none⟩ = some (.int .i64 (L.length : Int))
  f : ∀ n, n < 8 → w.frozen? ⟨p, n, none⟩ = false
  wd : ∀ n, n < 8 → Wd (W n) L (n * 64)
  l1 : 1 ≤ L.length
  l2 : L.length ≤ 512
def Bm (w : World) (p : Nat) (L : List Bool) : Prop := ∃ W, Bw w p W L
section
variable {w w' : World} {p : Nat} {W : Nat → Nat} {L : List Bool} {S : Nat → Prop}
theorem Bw.size (h : Bw w p W L) : p < w.heap.size := lt_of_cell (p := ⟨p, 8, none⟩) h.m
theorem Bm.size (h : Bm w p L) : p < w.heap.size := by obtain ⟨W, h⟩ := h; exact h.size
theorem Bw.but (h : Bw w p W L) (hb : But S w w') (hn : ¬ S p) : Bw w' p W L :=
  ⟨fun n hl => (hb.cell (p := ⟨p, n, none⟩) h.size hn).trans (h.c n hl), (hb.cell (p := ⟨p, 8, none⟩) h.size hn).trans h.m, fun n hl => (hb.frozen (p := ⟨p, n, none⟩) h.size hn).trans (h.f n hl), h.wd, h.l1, h.l2⟩
theorem Bm.but (h : Bm w p L) (hb : But S w w') (hn : ¬ S p) : Bm w' p L := by obtain ⟨W, h⟩ := h; exact ⟨W, h.but hb hn⟩
theorem Bm.below (h : Bm w p L) (hb : Below w.heap.size w w') : Bm w' p L := h.but (Below.but hb fun _ => False) id
theorem Bm.drewN (h : Bm w p L) (k : Nat) : Bm (w.drewN k) p L := h.but ((But.refl (fun _ => False) w).drewN k) id
theorem Bm.l1 (h : Bm w p L) : 1 ≤ L.length := by obtain ⟨W, h⟩ := h; exact h.l1
theorem Bm.l2 (h : Bm w p L) : L.length ≤ 512 := by obtain ⟨W, h⟩ := h; exact h.l2
end

theorem mask_any (n : Nat) (hn : n < 512) (w : World) : Calls Try.prog 87 #[.int .i64 (n : Int)] w fun e w' => e = .returned (.int .u64 ((2 ^ (n % 64) : Nat) : Int)) ∧ w = w' := by
  go_enter Try.func87, Try.ntmps87
  go_wp2
  go_ret
  refine ⟨?_, rfl⟩
  have hf := pow_fit (Nat.mod_lt n (show 64 > 0 by omega))
  have he : ((2 ^ (n % 64) : Nat) : Int) = (2 : Int) ^ (n % 64) := by simp
  show Ending.returned (.int .u64 (IntKind.u64.wrap ((2 : Int) ^ (n % 64)))) = _
  rw [← he, IntKind.wrap_u64]
  generalize 2 ^ (n % 64) = y at hf ⊢
  congr 2
  omega
theorem already_any (b : Bool) (w : World) : Calls Try.prog 90 #[.bool b] w (R1 (if b = true then 10 else 9) w) := by
  cases b with
  | true =>
    go_enter Try.func90, Try.ntmps90
    go_wp2
    go_ret
    exact ⟨rfl, rfl⟩
  | false =>
    go_enter Try.func90, Try.ntmps90
    go_wp2
    go_ret
    exact ⟨rfl, rfl⟩
theorem may_nil (n : Int) (w : World) : Calls Try.prog 88 #[.pointer none, .int .i64 n] w (B1 false w) := by
  go_enter Try.func88, Try.ntmps88
  go_wp2
  go_ret
  exact ⟨rfl, rfl⟩
section
variable {w : World} {p : Nat} {L : List Bool}
theorem may_any (h : Bm w p L) (n : Int) : Calls Try.prog 88 #[.pointer (some ⟨p, 0, none⟩), .int .i64 n] w (B1 (inB L n) w) := by
  obtain ⟨W, h⟩ := h
  have hm := h.m
  clear h
  unfold inB
  go_enter Try.func88, Try.ntmps88
  go_wp2
  all_goals
    go_ret
    refine ⟨?_, rfl⟩
    first | (simp_all; done) | (simp_all; omega)
theorem inB_in {n : Int} (h : inB L n = true) : ∃ k : Nat, n = (k : Int) ∧ k < L.length := by
  simp [inB] at h
  exact ⟨n.toNat, by omega, by omega⟩
theorem inB_nat {k : Nat} (h : k < L.length) : inB L (k : Int) = true := by simp [inB]; omega
theorem has_nil (n : Int) (w : World) : Calls Try.prog 89 #[.pointer none, .int .i64 n] w (BQ false w) := by
  have HM := Lib.hid (fun d => may_nil n (w.drewN d))
  go_enter Try.func89, Try.ntmps89
  go_wp2_with fail
  go_quiet ((go_at_call 88; exact quiet1 (HM.out _)))
  go_wp2
  go_ret
  exact ⟨rfl, _, rfl⟩
theorem has_off (h : Bm w p L) (n : Int) (hn : inB L n = false) : Calls Try.prog 89 #[.pointer (some ⟨p, 0, none⟩), .int .i64 n] w (BQ false w) := by
  have HM := Lib.hid (fun d => may_any (h.drewN d) n)
  rw [hn] at HM
  clear hn h
  go_enter Try.func89, Try.ntmps89
  go_wp2_with fail
  go_quiet ((go_at_call 88; exact quiet1 (HM.out _)))
  go_wp2
  go_ret
  exact ⟨rfl, _, rfl⟩
/-- A word, and one of its bits, as Go's '&' tells. -/
theorem and_word {x k : Nat} (h : Wd x L (k / 64 * 64)) : bits .and .u64 (x : Int) ((2 ^ (k % 64) : Nat) : Int) = ((x &&& 2 ^ (k % 64) : Nat) : Int) ∧ ((x &&& 2 ^ (k % 64) : Nat) = 0 ↔ bt L k = false) := by
  have h64 : k % 64 < 64 := Nat.mod_lt _ (by omega)
  refine ⟨bits_and_u64_nat _ _ h.1 (pow_fit h64), ?_⟩
  rw [and_zero, h.2 _ h64, show k / 64 * 64 + k % 64 = k by omega]
theorem has_on (h : Bm w p L) (k : Nat) (hk : k < L.length) : Calls Try.prog 89 #[.pointer (some ⟨p, 0, none⟩), .int .i64 (k : Int)] w (BQ (bt L k) w) := by
  have HM := Lib.hid (fun d => may_any (h.drewN d) (k : Int))
  rw [inB_nat hk] at HM
  have l2 := h.l2
  have HK := Lib.hid (fun d => mask_any k (by omega) (w.drewN d))
  obtain ⟨W, h⟩ := h
  have hc := h.c (k / 64) (by omega)
  obtain ⟨ea, ez⟩ := and_word (h.wd (k / 64) (by omega))
  have en : ((((W (k / 64) &&& 2 ^ (k % 64) : Nat) : Int)) != 0) = bt L k := by
    cases b : bt L k
    · rw [ez.2 b]; rfl
    · have : (W (k / 64) &&& 2 ^ (k % 64) : Nat) ≠ 0 := fun q => by rw [ez.1 q] at b; cases b
      simp
      omega
  generalize (W (k / 64) &&& 2 ^ (k % 64) : Nat) = y at ea en
  generalize (2 ^ (k % 64) : Nat) = z at ea HK
  generalize W (k / 64) = x at ea hc
  generalize bt L k = b at en ⊢
  have hk2 : k < 512 := by omega
  clear ez h hk l2
  go_enter Try.func89, Try.ntmps89
  go_wp2_with fail
  go_quiet ((first
    | (go_at_call 88; exact quiet1 (HM.out _))
    | (go_at_call 87; exact quiet1 (HK.out _))))
  go_wp2
  go_ret
  exact ⟨rfl, _, rfl⟩
theorem has_any (h : Bm w p L) (n : Int) : Calls Try.prog 89 #[.pointer (some ⟨p, 0, none⟩), .int .i64 n] w (BQ (hasOf L n) w) := by
  unfold hasOf
  cases q : inB L n with
  | false => exact has_off h n q
  | true =>
    obtain ⟨k, rfl, hk⟩ := inB_in q
    exact has_on h k hk
end
end Go.Proofs.Ytijkigibcpgciaa.Pg
