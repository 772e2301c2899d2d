/-
  The document's own answers for package ring (almeryref07): its lists in memory ('Lss'), New, place, Of, Next, Ends.
-/
import Derived.Test.YtakecddjpdiojaaRingNew
import Derived.Test.YtakecddjpdiojaaIntsMore
import Derived.Test.YtakecddjpdiojaaQuietImp
namespace Go.Proofs.Ytakecddjpdiojaa
open Go.ChangeShapes Go.WideShapes Go.ChangeAt Go.RowKit

/-- The slice value '.slice a n c' holds the n lists L, below block B. -/
structure Lss (w : World) (B : Nat) (a : Option Addr) (n : Nat) (L : List (List Int)) : Prop where
  len : L.length = n
  max : n ≤ 1000000
  most : ∀ x ∈ L, x.length ≤ 1000000
  head : 0 < n → ∃ b o, a = some ⟨b, o, none⟩ ∧ b < B ∧ ∀ (k : Nat) (x : List Int), L[k]? = some x → ∃ ra rn rc, w.cell? ⟨b, o + k, none⟩ = some (.slice ra rn rc) ∧ rn ≤ rc ∧ Ints w B ra rn x
section
variable {w w' : World} {B B' n : Nat} {a : Option Addr} {L : List (List Int)}
theorem Lss.below (h : Lss w B a n L) (hb : Below B w w') : Lss w' B a n L :=
  ⟨h.len, h.max, h.most, fun hn => by
    obtain ⟨b, o, e, hB, hc⟩ := h.head hn
    refine ⟨b, o, e, hB, fun k x hx => ?_⟩
    obtain ⟨ra, rn, rc, h1, h2, h3⟩ := hc k x hx
    exact ⟨ra, rn, rc, (hb.cell (p := ⟨b, o + k, none⟩) hB).trans h1, h2, h3.below hb⟩⟩
theorem Lss.more (h : Lss w B a n L) (hB : B ≤ B') : Lss w B' a n L :=
  ⟨h.len, h.max, h.most, fun hn => by
    obtain ⟨b, o, e, hb, hc⟩ := h.head hn
    refine ⟨b, o, e, by omega, fun k x hx => ?_⟩
    obtain ⟨ra, rn, rc, h1, h2, h3⟩ := hc k x hx
    exact ⟨ra, rn, rc, h1, h2, h3.more hB⟩⟩
theorem Lss.on (h : Lss w w.heap.size a n L) (hb : Below w.heap.size w w') : Lss w' w'.heap.size a n L := (h.below hb).more hb.size
theorem Lss.drewN (h : Lss w B a n L) (k : Nat) : Lss (w.drewN k) B a n L := h.below (belowN (Below.refl _ _) k)
end

/-- How the document's New ends, where it is refused. -/
theorem refNew_bad (n m : Int) (w : World) (h : mayB n m = false) :
    Calls Try.prog 10 #[.int .i64 n, .int .i64 m] w fun e w' => e = .returned (.tuple #[.agg #[.slice none 0 0, .int .i64 0], .int .i64 1]) ∧ Below w.heap.size w w' := by
  by_cases h1 : n < 1
  · have d1 : decide (n < 1) = true := by simpa using h1
    clear h
    go_enter Try.func10, Try.ntmps10
    go_wp2
    refine bodyPost_ret (v := .tuple #[.agg #[.slice none 0 0, .int .i64 0], .int .i64 1]) (by simp [results, Try.results10, go_sem]) rfl ?_
    exact ⟨rfl, below1 w _⟩
  have d1 : decide (n < 1) = false := by simpa using h1
  by_cases h2 : 4096 < n
  · have d2 : decide (4096 < n) = true := by simpa using h2
    clear h
    go_enter Try.func10, Try.ntmps10
    go_wp2
    refine bodyPost_ret (v := .tuple #[.agg #[.slice none 0 0, .int .i64 0], .int .i64 1]) (by simp [results, Try.results10, go_sem]) rfl ?_
    exact ⟨rfl, below1 w _⟩
  have d2 : decide (4096 < n) = false := by simpa using h2
  by_cases h3 : m < 1
  · have d3 : decide (m < 1) = true := by simpa using h3
    clear h
    go_enter Try.func10, Try.ntmps10
    go_wp2
    refine bodyPost_ret (v := .tuple #[.agg #[.slice none 0 0, .int .i64 0], .int .i64 1]) (by simp [results, Try.results10, go_sem]) rfl ?_
    exact ⟨rfl, below1 w _⟩
  have d3 : decide (m < 1) = false := by simpa using h3
  have d4 : decide (64 < m) = true := by
    simp [mayB] at h
    have := h (by omega) (by omega) (by omega)
    simp; omega
  clear h
  go_enter Try.func10, Try.ntmps10
  go_wp2
  refine bodyPost_ret (v := .tuple #[.agg #[.slice none 0 0, .int .i64 0], .int .i64 1]) (by simp [results, Try.results10, go_sem]) rfl ?_
  exact ⟨rfl, below1 w _⟩

/-- A block of slices that are all nil. -/
def nils (n : Nat) : Obj := .cells (madeCells #[.slice none 0 0] n) 42
theorem make_nils (n : Nat) (hn : n ≤ 64) (v : World) :
    (Instr.makeSlice 28 (.int .i64 (n : Int)) (.int .i64 (n : Int))).run Try.prog v = .ok (.slice (some ⟨v.heap.size, 0, none⟩) n n) (v.alloc (nils n)) := by
  obtain ⟨i, hi, hz, hs, hb⟩ : ∃ i, Try.prog.info? 42 = some i ∧ i.zero = some (.slice none 0 0) ∧ i.size = 1 ∧ i.bytes = 24 := ⟨_, rfl, by kernel_rfl, by kernel_rfl, by kernel_rfl⟩
  rw [run_make v 28 42 i _ Try.underlying28 hi hz .i64 .i64 n n (by omega) (by omega) (by rw [hb]; omega) (by omega)]
  simp [hs, nils, Value.cells]
theorem ints_zero (w : World) (B : Nat) (a : Option Addr) : Ints w B a 0 [] := ⟨rfl, by omega, by simp, fun h => absurd h (by omega)⟩
theorem nils_lss (w : World) (n : Nat) (hn : n ≤ 64) : Lss (w.alloc (nils n)) (w.heap.size + 1) (some ⟨w.heap.size, 0, none⟩) n (List.replicate n []) := by
  have hh : (w.alloc (nils n)).heap[w.heap.size]? = some (nils n) := by simp only [World.alloc, Array.getElem?_push, if_true]
  refine ⟨by simp, by omega, fun x hx => by rw [(List.mem_replicate.1 hx).2]; simp, fun _ => ⟨w.heap.size, 0, rfl, by omega, fun k x hx => ?_⟩⟩
  rw [List.getElem?_replicate] at hx
  split at hx
  · rename_i hk
    cases hx
    refine ⟨none, 0, 0, ?_, by omega, ints_zero _ _ _⟩
    rw [World.cell?, hh]
    simp [nils, madeCells, hk, Nat.mod_one]
  · cases hx
theorem refNew_ok (N M : Nat) (w : World) (h1 : 1 ≤ N) (h2 : N ≤ 4096) (h3 : 1 ≤ M) (h4 : M ≤ 64) :
    Calls Try.prog 10 #[.int .i64 (N : Int), .int .i64 (M : Int)] w fun e w' => ∃ g, e = .returned (.tuple #[.agg #[.slice (some ⟨g, 0, none⟩) M M, .int .i64 N], .int .i64 0]) ∧ Lss w' w'.heap.size (some ⟨g, 0, none⟩) M (List.replicate M []) ∧ Below w.heap.size w w' ∧ w.heap.size ≤ g := by
  have d1 : decide ((N : Int) < 1) = false := by simp; omega
  have d2 : decide ((4096 : Int) < (N : Int)) = false := by simp; omega
  have d3 : decide ((M : Int) < 1) = false := by simp; omega
  have d4 : decide ((64 : Int) < (M : Int)) = false := by simp; omega
  have hmk := make_nils M h4
  go_enter Try.func10, Try.ntmps10
  go_wp2
  refine bodyPost_ret (v := .tuple #[.agg #[.slice (some ⟨w.heap.size + 1, 0, none⟩) M M, .int .i64 N], .int .i64 0]) (by simp [results, Try.results10, go_sem]) rfl ?_
  refine ⟨w.heap.size + 1, rfl, ?_, below2 w _ _, by omega⟩
  have := nils_lss (w.alloc (.cells #[.slice (some ⟨w.heap.size + 1, 0, none⟩) M M, .int .i64 N] 30)) M h4
  simpa using this

/-- The place of a node in its list. -/
noncomputable def plcJ (L : List (List Int)) (n : Int) : Int := match plc L n with | some q => (q.2 : Int) | none => -1
section
variable {w : World} {N M C : Nat} {L : List (List Int)}
theorem Wf.plcJ (hw : Wf N M C L) {i j : Nat} {n : Int} (h : At L i j n) : plcJ L n = (j : Int) := by unfold Proofs.Ytakecddjpdiojaa.plcJ; rw [hw.plc h]
theorem plcJ_no {n : Int} (h : ∀ i j, ¬ At L i j n) : Proofs.Ytakecddjpdiojaa.plcJ L n = -1 := by unfold Proofs.Ytakecddjpdiojaa.plcJ; rw [plc_no h]
theorem refPlace_any (hw : Wf N M C L) (hM : 1 ≤ M) (a : Option Addr) (c : Nat) (s n : Int) (h : Lss w w.heap.size a M L) :
    Calls Try.prog 31 #[.agg #[.slice a M c, .int .i64 s], .int .i64 n] w fun e w' => e = .returned (.tuple #[.int .i64 (ofL L n), .int .i64 (plcJ L n)]) ∧ Below w.heap.size w w' := by
  have HB := Lib.hid (below1 w (.cells #[.slice a M c, .int .i64 s] 30))
  have HL := Lib.hid (h.on HB.out)
  have c0 : (w.alloc (.cells #[.slice a M c, .int .i64 s] 30)).cell? ⟨w.heap.size, 0, none⟩ = some (.slice a M c) := by go_simp
  have HC := Lib.hid c0
  have hmax := h.max
  clear c0
  go_enter Try.func31, Try.ntmps31
  go_wp2
  generalize w.alloc (.cells #[.slice a M c, .int .i64 s] 30) = w1 at HB HL HC ⊢
  generalize w.heap.size = g at HC ⊢
  obtain ⟨b, o, rfl, hb, hc⟩ := HL.out.head (by omega)
  have c0 := HC.out
  have CC := Lib.hid hc
  clear hc
  go_loop [6] (fun i => ∃ k : Nat, k ≤ M ∧ i = .int .i64 k ∧ ∀ i', i' < k → ∀ j, ¬ At L i' j n) (fun i => M - (intOf i).toNat)
  case atStart => exact ⟨0, by omega, rfl, fun i' hi => absurd hi (by omega)⟩
  case round =>
    obtain ⟨i, hi, rfl, hno⟩ := hrel
    have NO := Lib.hid hno
    clear hno
    by_cases hlt : i < M
    · have dk : decide ((i : Int) < (M : Int)) = true := by simp; omega
      obtain ⟨x, hx⟩ : ∃ x, L[i]? = some x := ⟨L[i]'(by rw [hw.len]; exact hlt), List.getElem?_eq_getElem _⟩
      have HX := Lib.hid hx
      obtain ⟨ra, rn, rc, e1, e2, e3⟩ := CC.out i x hx
      have HI := Lib.hid e3
      have hrn := e3.max
      clear hx e3
      go_wp2
      go_loop [7] (fun q => ∃ k : Nat, k ≤ rn ∧ q = .int .i64 k ∧ ∀ j, j < k → ¬ At L i j n) (fun q => rn - (intOf q).toNat)
      case atStart => exact ⟨0, by omega, rfl, fun j hj => absurd hj (by omega)⟩
      case round =>
        obtain ⟨k, hk, rfl, hno⟩ := hrel
        have NI := Lib.hid hno
        clear hno
        by_cases hlt2 : k < rn
        · have dk2 : decide ((k : Int) < (rn : Int)) = true := by simp; omega
          obtain ⟨m, hm, _, _⟩ := HI.out.at_ hlt2
          obtain ⟨b2, o2, rfl, _, hc2⟩ := HI.out.head (by omega)
          have e4 := hc2 k m hm
          have HM : Hid (At L i k m) := Lib.hid ⟨x, HX.out, hm⟩
          clear hc2 hm
          cases hq : (m == n)
          · have HQ := Lib.hid (beq_eq_false_iff_ne.1 hq)
            go_wp2
            go_round
            case rel =>
              refine ⟨k + 1, by omega, by go_num, fun j hj hat => ?_⟩
              by_cases z : j = k
              · subst z
                exact HQ.out ((at_gt HM.out).symm.trans (at_gt hat))
              · exact NI.out j (by omega) hat
            case measure => simp [intOf]; omega
          · have HQ := Lib.hid (eq_of_beq hq)
            go_wp2
            go_ret2
            have hat : At L i k n := HQ.out ▸ HM.out
            rw [hw.of hat, hw.plcJ hat]
            exact ⟨rfl, HB.out⟩
        · have dk2 : decide ((k : Int) < (rn : Int)) = false := by simp; omega
          obtain rfl : k = rn := by omega
          go_wp2
          go_round
          case rel =>
            refine ⟨i + 1, by omega, by go_num, fun i' hi' j hat => ?_⟩
            by_cases z : i' = i
            · subst z
              obtain ⟨y, h1, h2⟩ := hat
              have : y = x := by rw [HX.out] at h1; exact (Option.some.inj h1).symm
              have hj : j < k := by rw [← HI.out.len, ← this]; exact (List.getElem?_eq_some_iff.1 h2).1
              exact NI.out j hj ⟨y, h1, h2⟩
            · exact NO.out i' (by omega) j hat
          case measure => simp [intOf]; omega
    · have dk : decide ((i : Int) < (M : Int)) = false := by simp; omega
      obtain rfl : i = M := by omega
      go_wp2
      go_ret2
      have hno : ∀ i' j, ¬ At L i' j n := fun i' j hat => NO.out i' (by rw [← hw.len]; exact at_len hat) j hat
      rw [of_no hno, plcJ_no hno]
      exact ⟨rfl, HB.out⟩
end
end Go.Proofs.Ytakecddjpdiojaa
