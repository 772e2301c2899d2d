import Derived.Test.YtfkegbipfekbdaaZSh
import Derived.Test.YtfkegbipfekbdaaZRnNew
import Derived.OwnWalk
/-
  Package shelf: New, met by a contract.
-/
namespace Go.Proofs.Ytfkegbipfekbdaa.Sh
open Go.ChangeShapes Go.WideShapes Go.ChangeAt Go.RowKit
set_option maxRecDepth 100000

theorem shNew_nil (c b : Int) (w : World) : Calls Try.prog 24 #[.pointer none, .int .i64 c, .int .i64 b] w fun e w' => e = .returned (.tuple #[.pointer none, .int .i64 1]) ∧ w = w' := by
  go_enter Try.func24, Try.ntmps24
  go_wp2
  go_ret2
  exact ⟨rfl, rfl⟩
theorem shNew_class (p : Nat) (c b : Int) (hc : c < 0) (w : World) : Calls Try.prog 24 #[.pointer (some ⟨p, 0, none⟩), .int .i64 c, .int .i64 b] w fun e w' => e = .returned (.tuple #[.pointer none, .int .i64 1]) ∧ w = w' := by
  have d1 : decide (c < 0) = true := by simpa using hc
  clear hc
  go_enter Try.func24, Try.ntmps24
  go_wp2
  go_ret2
  exact ⟨rfl, rfl⟩
theorem shNew_blocks (p : Nat) (c b : Int) (hc : 0 ≤ c) (hb : b < 1 ∨ 512 < b) (w : World) : Calls Try.prog 24 #[.pointer (some ⟨p, 0, none⟩), .int .i64 c, .int .i64 b] w fun e w' => e = .returned (.tuple #[.pointer none, .int .i64 1]) ∧ w = w' := by
  have d1 : decide (c < 0) = false := by simp; omega
  have H := Lib.hid (Pg.pageNew_bad b hb w)
  clear hc hb
  go_enter Try.func24, Try.ntmps24
  go_wp2_with fail
  refine H.out.mono ?_
  rintro e w' ⟨rfl, rfl⟩
  go_wp2
  go_ret2
  exact ⟨rfl, rfl⟩

/-- How New ends: a shelf without pages, on the pool. -/
def ShNew (pp pa K B : Nat) (c : Int) (O fl : List Int) (w : World) (e : Ending) (w' : World) : Prop :=
  ∃ x A lab, e = .returned (.tuple #[.pointer (some ⟨x.s, 0, none⟩), .int .i64 0]) ∧ Sm w' x A lab ⟨O, fl, [], []⟩ ∧ (x.pp = pp ∧ x.pa = pa ∧ x.K = K ∧ x.B = B ∧ x.c = c) ∧ Below w.heap.size w w' ∧ (∀ i, lab i ≠ none → i = pp ∨ i = pa ∨ w.heap.size ≤ i)
def labNew (x : Fx) : Lab := fun i => if i = x.s then some (-1) else if i = x.pp ∨ i = x.pa then some (-2) else if i = x.rp ∨ i = x.ra ∨ i = x.rb then some (-3) else if i = x.mm then some (-4) else none
theorem lay_new (x : Fx) (A : Adr) (h1 : x.pp < x.mm) (h2 : x.pa < x.mm) (h3 : x.rp < x.mm) (h4 : x.ra < x.mm) (h5 : x.rb < x.mm) (h6 : x.mm < x.s) (h7 : x.pp < x.rp) (h8 : x.pp < x.ra) (h9 : x.pp < x.rb) (g7 : x.pa < x.rp) (g8 : x.pa < x.ra) (g9 : x.pa < x.rb) : Lay x [] A (labNew x) := by
  unfold labNew
  refine ⟨if_pos rfl, ?_, ?_, ?_, ?_, ?_, ?_, fun n hn => by simp [nums] at hn⟩
  · rw [if_neg (by omega), if_pos (Or.inl rfl)]
  · rw [if_neg (by omega), if_pos (Or.inr rfl)]
  · rw [if_neg (by omega), if_neg (by omega), if_pos (Or.inl rfl)]
  · rw [if_neg (by omega), if_neg (by omega), if_pos (Or.inr (Or.inl rfl))]
  · rw [if_neg (by omega), if_neg (by omega), if_pos (Or.inr (Or.inr rfl))]
  · rw [if_neg (by omega), if_neg (by omega), if_neg (by omega), if_pos rfl]
theorem lab_new (x : Fx) (i : Nat) (h : labNew x i ≠ none) : i = x.s ∨ i = x.pp ∨ i = x.pa ∨ i = x.rp ∨ i = x.ra ∨ i = x.rb ∨ i = x.mm := by
  unfold labNew at h
  split at h
  · omega
  · split at h
    · omega
    · split at h
      · omega
      · split at h
        · omega
        · exact absurd rfl h
theorem mp_new (w : World) (A : Adr) : Mp (w.alloc (.map #[] 0)) w.heap.size [] A := ⟨.map [], World.ownsMap_made w _ _ _, fun i => by simp [nums]; rfl, fun i => by simp [adr, nums]; rfl, rfl⟩
section
variable {w : World} {pp pa K : Nat} {O fl : List Int}
/-- The block that New makes, and the map, are a shelf. -/
theorem shMade {w3 : World} {rp ra rb B : Nat} {c : Int} (hp : Pl.Pm w pp pa K O fl) (bw : Below w.heap.size w w3) (rr : Rn.Rg w3 rp ra rb K 1 0 (List.replicate 1 [])) (l1 : w.heap.size ≤ rp) (l2 : w.heap.size ≤ ra) (l3 : w.heap.size ≤ rb) (c0 : 0 ≤ c) (c1 : c ≤ 9223372036854775807) (b1 : 1 ≤ B) (b2 : B ≤ 512) :
    ∃ (x : Fx) (A : Adr) (lab : Lab), x.s = w3.heap.size + 1 ∧ Sm ((w3.alloc (.map #[] 0)).alloc (.cells #[.pointer (some ⟨pp, 0, none⟩), .int .i64 c, .int .i64 (B : Int), .map (some w3.heap.size), .pointer (some ⟨rp, 0, none⟩), .int .i64 0] 99)) x A lab ⟨O, fl, [], []⟩ ∧ (x.pp = pp ∧ x.pa = pa ∧ x.K = K ∧ x.B = B ∧ x.c = c) ∧
      Below w.heap.size w ((w3.alloc (.map #[] 0)).alloc (.cells #[.pointer (some ⟨pp, 0, none⟩), .int .i64 c, .int .i64 (B : Int), .map (some w3.heap.size), .pointer (some ⟨rp, 0, none⟩), .int .i64 0] 99)) ∧ (∀ i, lab i ≠ none → i = pp ∨ i = pa ∨ w.heap.size ≤ i) := by
  have q1 := hp.psize
  have q2 := hp.asize
  have sz := bw.size
  have rp' := rr.rm.psize
  have ra' := rr.rm.asize
  have rb' := rr.rm.bsize
  obtain ⟨o, ho⟩ : ∃ o : Obj, o = .cells #[.pointer (some ⟨pp, 0, none⟩), .int .i64 c, .int .i64 (B : Int), .map (some w3.heap.size), .pointer (some ⟨rp, 0, none⟩), .int .i64 0] 99 := ⟨_, rfl⟩
  have bb := below2 w3 (.map #[] 0) o
  have bt := belowT bw bb
  have szs : ((w3.alloc (.map #[] 0)).alloc o).heap.size = w3.heap.size + 2 := by simp
  have cl : Cl ((w3.alloc (.map #[] 0)).alloc o) ⟨w3.heap.size + 1, pp, pa, rp, ra, rb, w3.heap.size, K, B, c⟩ 0 := by
    rw [ho]
    exact ⟨by go_simp, by go_simp, by go_simp, by go_simp, by go_simp, by go_simp, by go_simp⟩
  rw [← ho]
  clear ho
  refine ⟨⟨w3.heap.size + 1, pp, pa, rp, ra, rb, w3.heap.size, K, B, c⟩, fun _ => (0, 0, 0), labNew ⟨w3.heap.size + 1, pp, pa, rp, ra, rb, w3.heap.size, K, B, c⟩, rfl, ⟨⟨cl, hp.below bt, Rop.of (Rn.Rg.below rr bb), ?_, fun n X hX => by simp at hX, ?_, fun i hi => ?_, b1, b2⟩, ?_, fun n X hX => by simp at hX⟩, ⟨rfl, rfl, rfl, rfl, rfl⟩, bt, fun i hi => ?_⟩
  · exact (mp_new w3 _).but (Below.but (below1 (w3.alloc (.map #[] 0)) _) (fun _ => False)) id
  · exact lay_new _ _ (show pp < w3.heap.size by omega) (show pa < w3.heap.size by omega) rp' ra' rb' (show w3.heap.size < w3.heap.size + 1 by omega) (show pp < rp by omega) (show pp < ra by omega) (show pp < rb by omega) (show pa < rp by omega) (show pa < ra by omega) (show pa < rb by omega)
  · rw [szs]
    have := lab_new _ i hi
    dsimp only at this
    omega
  · exact ⟨hp.wf, by simp [nums], fun n hn => by simp [nums] at hn, fun n X hX => by simp at hX, fun n X hX => by simp at hX, by simp, fun n => by simp, c0, c1⟩
  · have := lab_new _ i hi
    dsimp only at this
    omega
set_option maxHeartbeats 1000000 in
theorem shNew_ok (h : Pl.Pm w pp pa K O fl) (c : Int) (c0 : 0 ≤ c) (c1 : c ≤ 9223372036854775807) (B : Nat) (b1 : 1 ≤ B) (b2 : B ≤ 512) :
    Calls Try.prog 24 #[.pointer (some ⟨pp, 0, none⟩), .int .i64 c, .int .i64 (B : Int)] w (ShNew pp pa K B c O fl w) := by
  have d1 : decide (c < 0) = false := by simp; omega
  have k1 := h.k1
  have k2 := h.k2
  have fw := h.wf.few
  have H1 := Lib.hid (Pg.pageNew_ok (B : Int) (by omega) (by omega) w)
  have HF := Lib.hid fun v (hv : Below w.heap.size w v) => Pl.free_any (h.below hv)
  have HH := Lib.hid fun v (hv : Below w.heap.size w v) => Pl.held_any (h.below hv)
  obtain ⟨n, hn⟩ : ∃ n, n = fl.length := ⟨_, rfl⟩
  rw [← hn] at HF HH fw
  have hw : IntKind.i64.wrap ((n : Int) + ((K : Int) - (n : Int))) = (K : Int) := by rw [show (n : Int) + ((K : Int) - (n : Int)) = (K : Int) by omega]; exact IntWalk.i64_in _ (by omega)
  have hm : max (1 : Int) (K : Int) = (K : Int) := by omega
  have hmm := @run_makeMap Try.prog
  have HR : Hid (∀ v, Calls Try.prog 54 #[.int .i64 (K : Int), .int .i64 1] v fun e w' => ∃ p a b, e = .returned (.tuple #[.pointer (some ⟨p, 0, none⟩), .int .i64 0]) ∧ Rn.Rg w' p a b K 1 0 (List.replicate 1 []) ∧ Below v.heap.size v w' ∧ v.heap.size ≤ p ∧ v.heap.size ≤ a ∧ v.heap.size ≤ b) := Lib.hid fun v => Rn.new_ok K 1 v k1 (by omega) (by omega) (by omega)
  have HR1 : Hid ((K : Int) ≤ 1 → ∀ v, Calls Try.prog 54 #[.int .i64 1, .int .i64 1] v fun e w' => ∃ p a b, e = .returned (.tuple #[.pointer (some ⟨p, 0, none⟩), .int .i64 0]) ∧ Rn.Rg w' p a b K 1 0 (List.replicate 1 []) ∧ Below v.heap.size v w' ∧ v.heap.size ≤ p ∧ v.heap.size ≤ a ∧ v.heap.size ≤ b) := Lib.hid fun q v => by
    have := HR.out v
    rwa [show (K : Int) = 1 by omega] at this
  have HP := Lib.hid h
  have HK1 := Lib.hid k1
  have HK2 := Lib.hid k2
  have HC := Lib.hid (show 0 ≤ c ∧ c ≤ 9223372036854775807 ∧ 1 ≤ B ∧ B ≤ 512 from ⟨c0, c1, b1, b2⟩)
  clear h c0 c1 b1 b2 k1 k2 fw hn
  rcases (by omega : (K : Int) ≤ 1 ∨ (1 : Int) < (K : Int)) with hq | hq
  · have hk := Lib.hid hq
    have hq2 : ¬ (1 : Int) < (K : Int) := by omega
    have hq3 : decide ((1 : Int) < (K : Int)) = false := by simpa using hq
    clear hq
    go_enter Try.func24, Try.ntmps24
    go_wp2_with fail
    refine H1.out.mono ?_
    rintro e w1 ⟨p1, p2, p3, rfl, _, b1, _⟩
    have B1' := Lib.hid b1
    clear b1 H1
    go_wp2_with fail
    refine (HF.out _ B1'.out).mono ?_
    rintro e w' ⟨rfl, rfl⟩
    go_wp2_with fail
    refine (HH.out _ B1'.out).mono ?_
    rintro e w' ⟨rfl, d, rfl⟩
    have B2' := Lib.hid (belowN B1'.out d)
    clear B1'
    go_wp2_with fail
    refine (HR1.out hk.out _).mono ?_
    rintro e w3 ⟨rp, ra, rb, rfl, r3, b3, l1, l2, l3⟩
    have B3' := Lib.hid (belowT B2'.out b3)
    have R3 := Lib.hid r3
    have L3 := Lib.hid (show w.heap.size ≤ rp ∧ w.heap.size ≤ ra ∧ w.heap.size ≤ rb by have := B2'.out.size; omega)
    clear r3 b3 l1 l2 l3 B2' HF HH
    go_wp2
    go_ret2
    obtain ⟨c0, c1, b1, b2⟩ := HC.out
    obtain ⟨l1, l2, l3⟩ := L3.out
    obtain ⟨x, A, lab, e, r⟩ := shMade HP.out B3'.out R3.out l1 l2 l3 c0 c1 b1 b2
    exact ⟨x, A, lab, by rw [e]; rfl, r⟩
  · have hq3 : decide ((1 : Int) < (K : Int)) = true := by simpa using hq
    go_enter Try.func24, Try.ntmps24
    go_wp2_with fail
    refine H1.out.mono ?_
    rintro e w1 ⟨p1, p2, p3, rfl, _, b1, _⟩
    have B1' := Lib.hid b1
    clear b1 H1
    go_wp2_with fail
    refine (HF.out _ B1'.out).mono ?_
    rintro e w' ⟨rfl, rfl⟩
    go_wp2_with fail
    refine (HH.out _ B1'.out).mono ?_
    rintro e w' ⟨rfl, d, rfl⟩
    have B2' := Lib.hid (belowN B1'.out d)
    clear B1'
    go_wp2_with fail
    refine (HR.out _).mono ?_
    rintro e w3 ⟨rp, ra, rb, rfl, r3, b3, l1, l2, l3⟩
    have B3' := Lib.hid (belowT B2'.out b3)
    have R3 := Lib.hid r3
    have L3 := Lib.hid (show w.heap.size ≤ rp ∧ w.heap.size ≤ ra ∧ w.heap.size ≤ rb by have := B2'.out.size; omega)
    clear r3 b3 l1 l2 l3 B2' HF HH
    go_wp2
    go_ret2
    obtain ⟨c0, c1, b1, b2⟩ := HC.out
    obtain ⟨l1, l2, l3⟩ := L3.out
    obtain ⟨x, A, lab, e, r⟩ := shMade HP.out B3'.out R3.out l1 l2 l3 c0 c1 b1 b2
    exact ⟨x, A, lab, by rw [e]; rfl, r⟩
end
end Go.Proofs.Ytfkegbipfekbdaa.Sh
