/-
  Cut of package chain, met by a contract: the spans of the bytes, in new memory, or nothing where they may not be.
-/
import Derived.Test.YtmamihlilgmnaaaChainSeq
import Derived.Test.YtmamihlilgmnaaaChainRow
import Derived.Test.YtmamihlilgmnaaaChainAsk
import Derived.Test.YtmamihlilgmnaaaRangeVar
import Derived.Laws.MakeOwn
namespace Go.Proofs.Ytmamihlilgmnaaa
open Go.ChangeShapes Go.WideShapes Go.ChangeAt Go.RowKit Go.Deep Go.Shelf
attribute [local go_sem] Oper.semAt_some

/-- How a call ends that tells spans: in new memory, that may grow. -/
def CutEnds (us : List Sp) (w : World) (e : Ending) (w' : World) : Prop :=
  ∃ a c, e = .returned (.slice a us.length c) ∧ Spans w' w'.heap.size a us.length us ∧ Below w.heap.size w w'

theorem cut_bad (a n p : Int) (w : World) (ha : -9223372036854775808 ≤ a ∧ a ≤ 9223372036854775807) (hn : -9223372036854775808 ≤ n ∧ n ≤ 9223372036854775807) (h : ¬ mayCut a n p) :
    Calls Try.prog 9 #[.int .i64 a, .int .i64 n, .int .i64 p] w (CutEnds [] w) := by
  have HF : Hid (∀ v, Below w.heap.size w v → CutEnds [] w (.returned (.slice none 0 0)) v) := Lib.hid fun v hv => ⟨none, 0, rfl, Spans.empty _ _ _, hv⟩
  unfold mayCut at h
  by_cases h1 : a < 0
  · have d1 : decide (a < 0) = true := by simpa using h1
    clear h
    go_enter Try.func9, Try.ntmps9
    go_wp2
    go_ret
    exact HF.out _ (Below.refl _ _)
  have d1 : decide (a < 0) = false := by simpa using h1
  by_cases h2 : n < 1
  · have d2 : decide (n < 1) = true := by simpa using h2
    clear h
    go_enter Try.func9, Try.ntmps9
    go_wp2
    go_ret
    exact HF.out _ (Below.refl _ _)
  have d2 : decide (n < 1) = false := by simpa using h2
  by_cases h3 : p < 1
  · have d3 : decide (p < 1) = true := by simpa using h3
    clear h
    go_enter Try.func9, Try.ntmps9
    go_wp2
    go_ret
    exact HF.out _ (Below.refl _ _)
  have d3 : decide (p < 1) = false := by simpa using h3
  have hlt : 16777216 - n < a := by omega
  have d4 : decide (16777216 - n < a) = true := by simpa using hlt
  clear h
  go_enter Try.func9, Try.ntmps9
  go_wp2
  go_ret
  exact HF.out _ (Below.refl _ _)

/-- The block of a row that is made for spans. -/
def roomy (cap : Nat) : Obj := .cells (madeCells #[.int .i64 0, .int .i64 0, .int .i64 0] (cap * 3)) 29
theorem make_roomy (cap : Nat) (hc : cap ≤ 100000000) (v : World) :
    (Instr.makeSlice 24 (.int .i64 0) (.int .i64 (cap : Int))).run Try.prog v = .ok (.slice (some ⟨v.heap.size, 0, none⟩) 0 cap) (v.alloc (roomy cap)) := by
  obtain ⟨i, hi, hz, hs, hb⟩ := info_parts infoSpan
  have := run_make (P := Try.prog) v 24 29 i _ Try.underlying24 hi hz .i64 .i64 0 (cap : Int) (Int.le_refl _) (by omega) (by rw [hb]; omega) (by omega)
  rw [this, hs]
  rfl
theorem own_roomy (v : World) (cap base : Nat) (hc : cap ≤ 100000000) (hb : base ≤ v.heap.size) : OwnS (v.alloc (roomy cap)) base v.heap.size 0 cap [] :=
  World.ownsRow_made v _ cap hb (by unfold maxLen; omega) (size_madeCells _ _)
/-- The loop of Cut: the spans that it has, in the row that was made for them; and those that are left. -/
structure Ck (w : World) (g cap p e x y : Nat) (W : World) : Prop where
  row : ∃ us, us ++ cutL p e y = cutL p e x ∧ Cs W (g + 1) [.slice (some ⟨g, 0, none⟩) us.length cap] ∧ OwnS W w.heap.size g us.length cap us
  below : Below w.heap.size w W
theorem Ck.but {w A B : World} {S : Nat → Prop} {g cap p e x y : Nat} (h : Ck w g cap p e x y A) (hb : But S A B) (hS : ∀ k, k ≤ g + 1 → ¬ S k) (hg : w.heap.size ≤ g) : Ck w g cap p e x y B := by
  obtain ⟨us, h1, h2, h3⟩ := h.row
  exact ⟨⟨us, h1, h2.but hb (hS _ (Nat.le_refl _)), h3.but hb (hS _ (by omega))⟩, h.below.trans (hb.below h.below.size fun k hk => hS k (by omega))⟩

/-- How Cut is left: the mark of its loop is taken, and what its result holds is told. -/
theorem cut_end {w W : World} {us : List Sp} {a : Option Addr} {c d : Nat} {tmps : Array Value} (hi : Spans W W.heap.size a us.length us) (hb : Below w.heap.size w W) (ho : 0 < us.length → ∃ g o, a = some ⟨g, o, none⟩ ∧ g ≠ d) (hk : W.heap[d]? = some (.deferred (some []))) (h1 : w.heap.size ≤ d) (ht : tmps[6]?.getD undef = .slice a us.length c) :
    bodyPostM Fence.wide 3 Try.prog Try.f9 (CutEnds us w) .ret { tmps := tmps, defers := [{ target := .collected d, args := #[] }] } W := by
  have b1 : But (fun k => k = d) W (W.putObj d (.deferred none)) := But.putObj (S := fun k => k = d) (But.refl _ _) (fun _ => rfl) _
  refine ⟨by simp, .inl ⟨d, _, rfl, run_takeDeferred hk, ?_⟩⟩
  refine ⟨.slice a us.length c, ?_, a, c, rfl, ?_, hb.trans (b1.below hb.size fun k hk e => by omega)⟩
  · generalize W.putObj d (.deferred none) = W2 at *
    simp only [results, Try.results9]
    simp [ht, go_sem]
  · refine ⟨hi.len, hi.max, fun _ _ _ => trivial, fun hn => ?_⟩
    obtain ⟨b, o, e, hB, hc⟩ := hi.head hn
    obtain ⟨g, o', e', hne⟩ := ho hn
    rw [e] at e'
    injection e' with e'
    injection e' with e1 e2
    subst e1 e2
    exact ⟨b, o, e, Nat.lt_of_lt_of_le hB b1.size, fun i u hu j v hv => (b1.cell (p := ⟨b, o + i * 3 + j, none⟩) hB hne).trans (hc i u hu j v hv)⟩

set_option maxRecDepth 100000 in
set_option maxHeartbeats 2000000 in
theorem cut_ok (A N P : Nat) (w : World) (h : mayCut A N P) (hP : P ≤ 9223372036854775807) :
    Calls Try.prog 9 #[.int .i64 (A : Int), .int .i64 (N : Int), .int .i64 (P : Int)] w (CutEnds (cutL P (A + N) A) w) := by
  refine (callsIn_wide (n := 3)).1 ?_
  refine callsIn_of_wp_marks Try.func9 rfl trivial ?_ rfl
  refine wpIn_wide.2 ?_
  obtain ⟨h1, h2, h3, h4⟩ := h
  have hx : A < A + N := by omega
  have hp : 0 < P := by omega
  have d1 : decide ((A : Int) < 0) = false := decide_eq_false (by omega)
  have d2 : decide ((N : Int) < 1) = false := decide_eq_false (by omega)
  have d3 : decide ((P : Int) < 1) = false := decide_eq_false (by omega)
  have d4 : decide (16777216 - (N : Int) < (A : Int)) = false := decide_eq_false (by omega)
  obtain ⟨r, hr⟩ : ∃ r, A % P = r := ⟨_, rfl⟩
  have hrA : r ≤ A := by rw [← hr]; exact Nat.mod_le A P
  have hr1 : (A : Int).tmod (P : Int) = (r : Int) := by rw [← hr]; rfl
  have hr2 : (A : Int) % (P : Int) = (r : Int) := by rw [← hr]; simp
  have hp0 : ¬ (P : Int) = 0 := by omega
  obtain ⟨cap, hcap⟩ : ∃ cap, (cutL P (A + N) A).length = cap := ⟨_, rfl⟩
  have hcN : cap ≤ N := by have := len_bytes (e := A + N) (x := A) hp; omega
  have hm : many ((r : Int) + (N : Int)) (P : Int) = (cap : Int) := by
    have := cap_many hp hx
    rw [hr, hcap, show A + N - A = N by omega] at this
    exact this
  have HD := Lib.hid (fun v => data_any ((r : Int) + (N : Int)) (P : Int) v (by omega))
  rw [hm] at HD
  have HCAP := Lib.hid hcap
  clear hr hm hcap
  simp only [Try.ntmps9, List.size_toArray, List.length_cons, List.length_nil, Nat.reduceAdd, Nat.reduceSub, Array.replicate_succ, Array.replicate_zero, List.push_toArray, List.append_toArray, List.nil_append, List.cons_append]
  go_wp2_with fail
  refine (HD.out _).mono ?_
  rintro e w1 ⟨rfl, f1⟩
  have hmk := make_roomy cap (by omega) w1
  have OW := Lib.hid (own_roomy w1 cap w.heap.size (by omega) f1.below.size)
  have B1 := Lib.hid f1.below
  clear f1
  go_wp2_with fail
  obtain ⟨W3, hW3⟩ : ∃ W3, (w1.alloc (roomy cap)).alloc (.cells #[.slice (some ⟨w1.heap.size, 0, none⟩) 0 cap] 24) = W3 := ⟨_, rfl⟩
  have C3 : Cs W3 (w1.heap.size + 1) [.slice (some ⟨w1.heap.size, 0, none⟩) 0 cap] := by
    rw [← hW3]
    exact (Cs.new (w1.alloc (roomy cap)) #[.slice (some ⟨w1.heap.size, 0, none⟩) 0 cap] 24 rfl).at_ (by simp)
  have O3 : OwnS W3 w.heap.size w1.heap.size 0 cap [] := by
    rw [← hW3]
    exact OW.out.but ((But.refl (fun _ => False) _).alloc _) id
  have B3 : Below w.heap.size w W3 := by
    rw [← hW3]
    exact (B1.out.alloc B1.out.size _).alloc (by have := B1.out.size; simp; omega) _
  have s3 : W3.heap.size = w1.heap.size + 2 := by rw [← hW3]; simp
  rw [hW3]
  refine (spans_any A N P W3).mono ?_
  rintro e w4 ⟨rfl, rfl⟩
  obtain ⟨bx, b4, s4⟩ := three_box W3 A N P
  have HG := Lib.hid B1.out.size
  generalize w1.heap.size = g at C3 O3 s3 HG ⊢
  have K4 : Ck w g cap P (A + N) A A (three W3 A N P) := ⟨⟨[], rfl, C3.below b4, O3.but (Below.but b4 (fun _ => False)) id⟩, B3.trans (b4.mono B3.size)⟩
  rw [s3] at bx s4
  generalize three W3 A N P = w4 at bx s4 K4 ⊢
  have SQ := Lib.hid (spans_seq (N := g + 2) (w0 := w4) (e := A + N) (by rw [show A + N - A = N by omega]; exact bx) hp hP (by omega) (by omega) (Nat.le_refl _))
  have K4' := Lib.hid K4
  rw [s3]
  clear bx K4 C3 O3 B3 b4 hW3 s3 OW B1 hmk HD
  go_wp2
  rename_i K hK
  refine wp_range_var (gf := 17) (lb := bound3 (g + 2)) rfl (enters_of Try.func17 (by kernel_rfl) rfl) SQ.out (by omega) (Below.refl _ _)
    (fun B s vs t A A' h k => h) (fun B s vs t A h => by rw [h.2.1]; rfl)
    (fun y W => Ck w g cap P (A + N) A y W) (fun _ _ => False)
    (fun s A B h k => h.but k (fun i hi q => by omega) HG.out) (fun d A B h k => h)
    K4'.out (fun vs => .cells (match vs[0]?.getD undef with | .agg cs => cs | _ => #[]) 29)
    (fun b vs => { tmps := #[.int .i64 (A : Int), .int .i64 (N : Int), .int .i64 (P : Int), undef, undef, undef, .slice none 0 0, .pointer (some ⟨g + 1, 0, none⟩), .pointer (some ⟨b, 0, none⟩), .int .i64 (A : Int), .bool false, .bool false,
      .int .i64 (N : Int), .bool false, .bool false, .bool false, .int .i64 (P : Int), .bool false, .bool false, .bool false, .int .i64 (A : Int), .int .i64 (N : Int), .int .i64 (16777216 - (N : Int)), .bool false, .bool false, .int .i64 (A : Int), .int .i64 (P : Int), .int .i64 (r : Int), .int .i64 (N : Int),
      .int .i64 ((r : Int) + (N : Int)), .int .i64 (P : Int), .int .i64 (cap : Int), .slice (some ⟨g, 0, none⟩) 0 cap, .int .i64 (A : Int), .int .i64 (N : Int), .int .i64 (P : Int), .func (.func 17) #[] (bound3 (g + 2)), vs[0]?.getD undef, undef, undef, undef, undef, undef], defers := [] }) ?assign ?body ?done ?stop
  case stop => exact fun c W h _ => h.elim
  case assign =>
    rintro l B s vs t W K2 ⟨_, rfl, rfl⟩ hk
    unfold Sp.val at hk ⊢
    clear K4' SQ hK HCAP
    gi_wp2
    exact hk
  case body =>
    rintro l B b s vs t W hB hb hhp h0 ⟨hs, rfl, rfl⟩
    obtain ⟨us, heq, hc, ho⟩ := h0.row
    have hroom : us.length + 1 ≤ cap := by
      have h := congrArg List.length heq
      rw [List.length_append, cutL_step hp hs, List.length_cons, HCAP.out] at h
      omega
    have heq2 : Hid ((us ++ [spn P (A + N) s]) ++ cutL P (A + N) (nxt P (A + N) s) = cutL P (A + N) A) := Lib.hid (by
      rw [← heq, cutL_step hp hs]
      simp)
    obtain ⟨u, hu⟩ : ∃ u, spn P (A + N) s = u := ⟨_, rfl⟩
    rw [hu] at hhp heq2 ⊢
    have S0 := Cs.new W #[.int .i64 (u.n : Int), .int .i64 (u.a : Int), .int .i64 (u.l : Int)] 29 (vs := u.cells) rfl
    have bA : But (fun _ => False) W (W.alloc (.cells #[.int .i64 (u.n : Int), .int .i64 (u.a : Int), .int .i64 (u.l : Int)] 29)) := (But.refl _ _).alloc _
    obtain ⟨w', hrun, o', b'⟩ := app_fits (ho.but bA id) S0 hroom 1 24
    have c' := (hc.but bA id).but b' (by omega)
    have cc := c'.cell 0 _ rfl
    have cf := c'.free 0 (by simp)
    have hcc := hc.cell 0 _ rfl
    have hk0 : W.cell? ⟨b, 0, none⟩ = some (.int .i64 (u.n : Int)) := by rw [World.cell?, hhp]; rfl
    have hk1 : W.cell? ⟨b, 1, none⟩ = some (.int .i64 (u.a : Int)) := by rw [World.cell?, hhp]; rfl
    have hk2 : W.cell? ⟨b, 2, none⟩ = some (.int .i64 (u.l : Int)) := by rw [World.cell?, hhp]; rfl
    have END : Hid (But (· < g + 2) W (w'.setCell ⟨g + 1, 0, none⟩ (.slice (some ⟨g, 0, none⟩) (us.length + 1) cap)) ∧ Ck w g cap P (A + N) A (nxt P (A + N) s) (w'.setCell ⟨g + 1, 0, none⟩ (.slice (some ⟨g, 0, none⟩) (us.length + 1) cap))) := Lib.hid (by
      have bW : But (fun k => k = g) W w' := (bA.mono fun _ _ q => q.elim).trans b'
      have b2 : But (fun k => k = g + 1) w' (w'.setCell ⟨g + 1, 0, none⟩ (.slice (some ⟨g, 0, none⟩) (us.length + 1) cap)) := (But.refl (fun k => k = g + 1) w').setCell (p := ⟨g + 1, 0, none⟩) (fun _ => rfl) _
      have hG := HG.out
      have bel : Below w.heap.size w w' := h0.below.trans (bW.one h0.below.size hG)
      refine ⟨(bW.mono fun i _ q => by omega).then b2 fun i _ q => by omega, ⟨⟨us ++ [u], heq2.out, ?_, ?_⟩, bel.trans (b2.one bel.size (by omega))⟩⟩
      · have := c'.set 0 (.slice (some ⟨g, 0, none⟩) (us.length + 1) cap)
        simpa using this
      · have := o'.but b2 (by omega)
        simpa using this)
    have hval : u.val = .agg #[.int .i64 (u.n : Int), .int .i64 (u.a : Int), .int .i64 (u.l : Int)] := rfl
    rw [hval]
    clear hval heq heq2 hc ho S0 bA o' b' c' h0 hhp hu K4' SQ hK
    gi_wp2_with (gi_at_builtin; refine wpListIn_append_run rfl (.tmp 38) (.tmp 40) rfl rfl rfl rfl hrun ?_)
    exact END.out
  case done =>
    rintro y W hf h0 hk
    obtain ⟨us, heq, hc, ho⟩ := h0.row
    rw [cutL_done hf, List.append_nil] at heq
    subst heq
    have hcc := hc.cell 0 _ rfl
    have OS := Lib.hid ho.spans
    have BL := Lib.hid h0.below
    have HK := Lib.hid hk
    have hsz := h0.below.size
    refine hK _ _ ?_
    clear hc ho h0 hk SQ K4' hK
    go_wp2
    have hd := HK.out
    rw [s4] at hd
    exact cut_end OS.out BL.out (fun _ => ⟨g, 0, rfl, by omega⟩) hd (by have := HG.out; omega) rfl

/-- CUT: whatever three ints come in. -/
theorem cut_any (a n p : Int) (w : World) (ha : -9223372036854775808 ≤ a ∧ a ≤ 9223372036854775807) (hn : -9223372036854775808 ≤ n ∧ n ≤ 9223372036854775807) (hp : p ≤ 9223372036854775807) :
    Calls Try.prog 9 #[.int .i64 a, .int .i64 n, .int .i64 p] w (CutEnds (cutI a n p) w) := by
  by_cases h : mayCut a n p
  · obtain ⟨h1, h2, h3, h4⟩ := h
    obtain ⟨A, rfl⟩ : ∃ A : Nat, a = A := ⟨a.toNat, by omega⟩
    obtain ⟨N, rfl⟩ : ∃ N : Nat, n = N := ⟨n.toNat, by omega⟩
    obtain ⟨P, rfl⟩ : ∃ P : Nat, p = P := ⟨p.toNat, by omega⟩
    rw [cutI_on ⟨h1, h2, h3, h4⟩]
    exact cut_ok A N P w ⟨h1, h2, h3, h4⟩ (by omega)
  · rw [cutI_off h]
    exact cut_bad a n p w ha hn h
end Go.Proofs.Ytmamihlilgmnaaa
