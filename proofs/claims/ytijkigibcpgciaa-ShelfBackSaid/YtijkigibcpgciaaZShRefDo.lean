import Derived.Test.YtijkigibcpgciaaZShRefGiveOk
import Derived.Test.YtijkigibcpgciaaZShRun
/-
  The document's own answers for package shelf: Give of any argument, New, Do.
-/
namespace Go.Proofs.Ytijkigibcpgciaa.Sh
open Go.ChangeShapes Go.WideShapes Go.ChangeAt Go.RowKit Go.Deep
set_option maxRecDepth 100000

section
variable {w : World} {P : Nat → Prop} {v : Rv} {s : Shl}
theorem Sw.opened {K B : Nat} {c n : Int} {X : List Int} (h : Sw K c B s) (hX : (n, X) ∈ s.ps) : (Sh.opened X n s.op).Nodup := by
  unfold Sh.opened
  split
  · rename_i z
    exact List.nodup_cons.2 ⟨fun q => (h.here hX).1 q z, h.opn⟩
  · exact h.opn
theorem refShGive_any (h : Rs w P v s) (up : Up w P) {K B : Nat} (hs : Sw K v.c B s) (hKv : v.K = K) (hK : K ≤ 1000) (hB2 : B ≤ 512) (n k : Int) :
    Calls Try.prog 34 #[(.agg #[.slice v.oa v.K v.oc, .slice v.fa v.nf v.fc, .int .i64 v.c, .int .i64 v.B, .slice v.na v.N v.nc, .slice v.pa v.N v.pc, .slice v.qa v.M v.qc]), .int .i64 n, .int .i64 k] w (RsEnds P v (giveOut s n k).1 (fun u => .tuple #[u, .int .i64 (giveOut s n k).2]) w) := by
  have hN : v.N ≤ 1000 := by rw [h.numN]; exact Nat.le_trans hs.few hK
  have hM : v.M ≤ 1000 := by rw [h.opM]; exact Nat.le_trans hs.op_few hK
  unfold giveOut
  cases hg : getP s.ps n with
  | none => exact refShGive_no h n k hg
  | some X =>
    have hX := get_mem hg
    obtain ⟨i, hi, _, _⟩ := mem_idx hX
    have hl : X.length ≤ 512 := by rw [hs.len _ _ hX]; exact hB2
    obtain ⟨kk, hnk, hkk, ho⟩ := hs.own n (mem_nums hX)
    dsimp only
    by_cases he : Pg.giveE X k ≠ 0
    · rw [if_pos he]
      exact refShGive_bad h up hs.nod n k hi hl _ he rfl
    · rw [if_neg he]
      have he0 : Pg.giveE X k = 0 := by omega
      have hc := hs.c0
      have := refShGive_ok h up hs.nod (by omega) (by omega) (by omega) (by rw [hKv]; exact hs.pool) (by rw [hKv]; exact hkk) ho (by omega) k hnk hi hl (hs.opened hX) he0
      have en : n.toNat = kk := by omega
      rw [en]
      by_cases hu : Pg.usedN (Pg.giveX X k) = 0
      · rw [if_pos hu] at this ⊢
        exact this
      · rw [if_neg hu] at this ⊢
        exact this
/-- How the document's New ends. -/
def RsNew (P : Nat → Prop) (K : Nat) (c : Int) (B : Int) (w : World) (e : Ending) (w' : World) : Prop := ∃ v' : Rv, e = .returned (.agg #[.slice v'.oa v'.K v'.oc, .slice v'.fa v'.nf v'.fc, .int .i64 v'.c, .int .i64 v'.B, .slice v'.na v'.N v'.nc, .slice v'.pa v'.N v'.pc, .slice v'.qa v'.M v'.qc]) ∧ Rs w' P v' ⟨Pl.freed K, Pl.turns K, [], []⟩ ∧ (v'.c = c ∧ v'.B = B ∧ v'.K = K) ∧ Below w.heap.size w w'
set_option maxHeartbeats 1000000 in
theorem refShNew_ok (K : Nat) (c B : Int) (w : World) (up : Up w P) (h1 : 1 ≤ K) (h2 : K ≤ 1024) :
    Calls Try.prog 12 #[.int .i64 (K : Int), .int .i64 c, .int .i64 B] w (RsNew P K c B w) := by
  have Z := B7.new w (.slice none 0 0) (.slice none 0 0) (.int .i64 0) (.int .i64 0) (.slice none 0 0) (.slice none 0 0) (.slice none 0 0) 36
  have bz := below1 w (.cells #[.slice none 0 0, .slice none 0 0, .int .i64 0, .int .i64 0, .slice none 0 0, .slice none 0 0, .slice none 0 0] 36)
  have HN := Lib.hid (Pl.refNew_ok K (w.alloc (.cells #[.slice none 0 0, .slice none 0 0, .int .i64 0, .int .i64 0, .slice none 0 0, .slice none 0 0, .slice none 0 0] 36)) h1 h2)
  have HZ := Lib.hid Z
  have BZ := Lib.hid bz
  have UP := Lib.hid up
  clear up h1 h2 Z bz
  go_enter Try.func12, Try.ntmps12
  go_wp2_with fail
  refine HN.out.mono ?_
  rintro e w2 ⟨oa, oc, fa, fc, Q, rfl, rp, b2, hQ⟩
  have bv := below1 w2 (.cells #[.slice oa K oc, .slice fa K fc] 33)
  have Z3 := (HZ.out.below b2).below bv
  have BW := belowT (belowT BZ.out b2) bv
  obtain ⟨v', ev⟩ : ∃ v' : Rv, v' = ⟨oa, K, oc, fa, K, fc, c, B, none, 0, 0, none, 0, none, 0, 0⟩ := ⟨_, rfl⟩
  have lt2 := (HZ.out.below b2).lt
  have b4 := set7_but (t0 := .slice oa K oc) (t1 := .slice fa K fc) (t2 := .int .i64 c) (t3 := .int .i64 B) (t4 := .slice none 0 0) (t5 := .slice none 0 0) (t6 := .slice none 0 0) (w2.alloc (.cells #[.slice oa K oc, .slice fa K fc] 33)) w.heap.size
  have RP : Pl.Rp w2 (fun k => Less P w.heap.size k ∧ k < w2.heap.size) oa oc fa fc K K (Pl.freed K) (Pl.turns K) := by
    have hh : ∀ k, Q k → Less P w.heap.size k ∧ k < w2.heap.size := fun k hk => ⟨⟨UP.out k (by have := hQ k hk; simp at this; omega), by have := hQ k hk; simp at this; omega⟩, rp.lt k hk⟩
    exact ⟨rp.own, rp.free, rp.oc_, rp.fc_, fun k hk => hk.2, fun q => by obtain ⟨b, o, e, p⟩ := rp.po q; exact ⟨b, o, e, hh b p⟩, fun q => by obtain ⟨b, o, e, p⟩ := rp.pf q; exact ⟨b, o, e, hh b p⟩⟩
  have nil : ∀ W : World, Ip W P none 0 0 [] := fun W => ⟨⟨rfl, by omega, by simp, fun q => absurd q (by omega)⟩, by omega, fun q => absurd q (by omega)⟩
  have H4 : Rs (set7 (w2.alloc (.cells #[.slice oa K oc, .slice fa K fc] 33)) w.heap.size (.slice oa K oc) (.slice fa K fc) (.int .i64 c) (.int .i64 B) (.slice none 0 0) (.slice none 0 0) (.slice none 0 0)) P v' ⟨Pl.freed K, Pl.turns K, [], []⟩ := by
    rw [ev]
    have q := Rp_but (Rp_but RP (Below.but bv _)) (b4.mono fun _ _ e p => p.2 e)
    refine ⟨⟨q.own, q.free, q.oc_, q.fc_, fun k hk => hk.2, fun z => by obtain ⟨b, o, e, p⟩ := q.po z; exact ⟨b, o, e, p.1.1, p.2⟩, fun z => by obtain ⟨b, o, e, p⟩ := q.pf z; exact ⟨b, o, e, p.1.1, p.2⟩⟩, nil _, ⟨[], ⟨rfl, by simp, by simp, fun z => absurd z (by simp)⟩, rfl⟩, nil _⟩
  have FIN := Lib.hid (show Rs (set7 (w2.alloc (.cells #[.slice oa K oc, .slice fa K fc] 33)) w.heap.size (.slice oa K oc) (.slice fa K fc) (.int .i64 c) (.int .i64 B) (.slice none 0 0) (.slice none 0 0) (.slice none 0 0)) P v' ⟨Pl.freed K, Pl.turns K, [], []⟩ ∧ (v'.c = c ∧ v'.B = B ∧ v'.K = K) ∧ Below w.heap.size w (set7 (w2.alloc (.cells #[.slice oa K oc, .slice fa K fc] 33)) w.heap.size (.slice oa K oc) (.slice fa K fc) (.int .i64 c) (.int .i64 B) (.slice none 0 0) (.slice none 0 0) (.slice none 0 0)) from ⟨H4, by rw [ev]; exact ⟨rfl, rfl, rfl⟩, set7_below BW (Nat.le_refl _) (Nat.le_refl _) _ _ _ _ _ _ _⟩)
  unfold set7 at FIN
  have ES : Hid ((.agg #[.slice oa K oc, .slice fa K fc, .int .i64 c, .int .i64 B, .slice none 0 0, .slice none 0 0, .slice none 0 0] : Value) = (.agg #[.slice v'.oa v'.K v'.oc, .slice v'.fa v'.nf v'.fc, .int .i64 v'.c, .int .i64 v'.B, .slice v'.na v'.N v'.nc, .slice v'.pa v'.N v'.pc, .slice v'.qa v'.M v'.qc])) := Lib.hid (by rw [ev])
  obtain ⟨z0, z1, z2, z3, z4, z5, z6, g0, g1, g2, g3, g4, g5, g6⟩ := Z3
  have n1 : ¬ w.heap.size = w2.heap.size := by omega
  have n2 : ¬ w2.heap.size = w.heap.size := by omega
  clear rp b2 hQ bv BW b4 RP nil H4 ev lt2 HN HZ BZ UP
  go_wp2
  refine bodyPost_ret (v := .agg #[.slice oa K oc, .slice fa K fc, .int .i64 c, .int .i64 B, .slice none 0 0, .slice none 0 0, .slice none 0 0]) (by simp [results, Try.results12, go_sem, z0, z1, z2, z3, z4, z5, z6]) rfl ?_
  exact ⟨v', by rw [← ES.out], FIN.out⟩
end
end Go.Proofs.Ytijkigibcpgciaa.Sh
