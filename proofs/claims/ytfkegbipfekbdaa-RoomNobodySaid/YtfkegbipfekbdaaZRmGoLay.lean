import Derived.Test.YtfkegbipfekbdaaZRmTake
import Derived.Test.YtfkegbipfekbdaaZChainAsk
import Derived.Test.YtfkegbipfekbdaaZRoomNum
import Derived.Test.YtfkegbipfekbdaaZRmGo
/-
  Package room: wanted, Fits; and of a room that is nil.
-/
namespace Go.Proofs.Ytfkegbipfekbdaa.Room
open Go.ChangeShapes Go.WideShapes Go.ChangeAt Go.RowKit
open Sh (Shl Ps Sw Uw Sr Sm Fx Adr Lab Nxt Far nums usedS mem_nums)
set_option maxRecDepth 100000

/-- How many free pages a thing needs. -/
def wantR (c : Cf) (r : Rom) (size : Int) : Int := if pick c.xs size < 0 then allOf size c.size else if openR r (pick c.xs size) = 0 then 1 else 0
section
variable {w : World} {y : Gx} {x : Nat → Fx} {A : Nat → Adr} {lab : Nat → Lab} {V : Int → Value} {Q : Nat → Prop} {r : Rom}
theorem gwanted_any (h : Gm w y x A lab V Q r) (size : Int) (hs : size ≤ 9223372036854775807) : Calls Try.prog 33 #[.pointer (some ⟨y.g, 0, none⟩), .int .i64 size] w (IB (wantR y.c r size) w) := by
  have k3 := h.cl.k3
  have k4 := h.cl.k4
  have HP := Lib.hid (pick_any y.za y.c.cn y.zc y.c.xs size w.heap.size w h.sizes.ints)
  have HA := Lib.hid (all_any size y.c.size w hs)
  have HO := Lib.hid (gopen_any h (pick y.c.xs size))
  unfold wantR
  generalize pick y.c.xs size = k at HP HO ⊢
  generalize openR r k = z at HO ⊢
  by_cases hk : k < 0
  · have dk : decide (k < 0) = true := decide_eq_true hk
    rw [if_pos hk]
    clear h hk HO
    go_enter Try.func33, Try.ntmps33
    go_wp2_with fail
    refine HP.out.mono ?_
    rintro e w' ⟨rfl, rfl⟩
    go_wp2_with fail
    refine HA.out.mono ?_
    rintro e w' ⟨rfl, f⟩
    have HB := Lib.hid f.below
    clear f
    go_wp2
    go_ret
    exact ⟨rfl, HB.out⟩
  · have dk : decide (k < 0) = false := decide_eq_false hk
    rw [if_neg hk]
    clear h hk HA k4
    by_cases hz : z = 0
    · have dz : (z == 0) = true := by simpa using hz
      rw [if_pos hz]
      clear hz
      go_enter Try.func33, Try.ntmps33
      go_wp2_with fail
      refine HP.out.mono ?_
      rintro e w' ⟨rfl, rfl⟩
      go_wp2_with fail
      refine HO.out.mono ?_
      rintro e w' ⟨rfl, rfl⟩
      go_wp2
      go_ret
      exact ⟨rfl, Below.refl _ _⟩
    · have dz : (z == 0) = false := by simpa using hz
      rw [if_neg hz]
      clear hz
      go_enter Try.func33, Try.ntmps33
      go_wp2_with fail
      refine HP.out.mono ?_
      rintro e w' ⟨rfl, rfl⟩
      go_wp2_with fail
      refine HO.out.mono ?_
      rintro e w' ⟨rfl, rfl⟩
      go_wp2
      go_ret
      exact ⟨rfl, Below.refl _ _⟩
/-- What it asks is what fits. -/
theorem want_fits {c : Cf} {r : Rom} {size : Int} (ht : isT c size = true) : fitsR c r size = if (r.fl.length : Int) < wantR c r size then 5 else 0 := by
  unfold fitsR wantR
  rw [if_pos ht]
  by_cases hk : pick c.xs size < 0
  · rw [if_neg (by omega), if_pos hk]
  · rw [if_pos (by omega), if_neg hk]
    have e : r.fl = [] ↔ r.fl.length = 0 := List.length_eq_zero_iff.symm
    by_cases ho : openR r (pick c.xs size) = 0
    · rw [if_pos ho]
      by_cases hf : r.fl = []
      · rw [if_pos ⟨ho, hf⟩, if_pos (by rw [e.1 hf]; omega)]
      · have hne : r.fl.length ≠ 0 := fun q => hf (e.2 q)
        rw [if_neg (fun q => hf q.2), if_neg (by omega)]
    · rw [if_neg ho, if_neg (fun q => ho q.1), if_neg (by omega)]
theorem gfits_any (h : Gm w y x A lab V Q r) (size : Int) (hs : size ≤ 9223372036854775807) : Calls Try.prog 10 #[.pointer (some ⟨y.g, 0, none⟩), .int .i64 size] w (IB (fitsR y.c r size) w) := by
  have k5 := h.cl.k5
  have k1 := h.cl.k1
  have HF := Lib.hid (Pl.free_any h.pool)
  have HW := Lib.hid (gwanted_any h size hs)
  cases ht : isT y.c size with
  | false =>
    have e : fitsR y.c r size = 3 := by unfold fitsR; rw [if_neg (by rw [ht]; simp)]
    rw [e]
    by_cases h1 : size < 1
    · have d1 : decide (size < 1) = true := decide_eq_true h1
      clear h ht e h1 HF HW
      go_enter Try.func10, Try.ntmps10
      go_wp2
      go_ret
      exact ⟨rfl, Below.refl _ _⟩
    · have d1 : decide (size < 1) = false := decide_eq_false h1
      have d2 : decide (y.c.most < size) = true := decide_eq_true (by
        have : ¬ isT y.c size = true := by rw [ht]; simp
        rw [isT_true] at this
        omega)
      clear h ht e h1 HF HW
      go_enter Try.func10, Try.ntmps10
      go_wp2
      go_ret
      exact ⟨rfl, Below.refl _ _⟩
  | true =>
    rw [want_fits ht]
    obtain ⟨t1, t2⟩ := isT_true.1 ht
    have d1 : decide (size < 1) = false := decide_eq_false (by omega)
    have d2 : decide (y.c.most < size) = false := decide_eq_false (by omega)
    generalize (r.fl.length : Int) = a at HF ⊢
    generalize wantR y.c r size = b at HW ⊢
    by_cases hd : a < b
    · have d3 : decide (a < b) = true := decide_eq_true hd
      rw [if_pos hd]
      clear h ht hd t1 t2
      go_enter Try.func10, Try.ntmps10
      go_wp2_with fail
      refine HF.out.mono ?_
      rintro e w' ⟨rfl, rfl⟩
      go_wp2_with fail
      refine HW.out.mono ?_
      rintro e w' ⟨rfl, b2⟩
      have B2 := Lib.hid b2
      clear b2
      go_wp2
      go_ret
      exact ⟨rfl, B2.out⟩
    · have d3 : decide (a < b) = false := decide_eq_false hd
      rw [if_neg hd]
      clear h ht hd t1 t2
      go_enter Try.func10, Try.ntmps10
      go_wp2_with fail
      refine HF.out.mono ?_
      rintro e w' ⟨rfl, rfl⟩
      go_wp2_with fail
      refine HW.out.mono ?_
      rintro e w' ⟨rfl, b2⟩
      have B2 := Lib.hid b2
      clear b2
      go_wp2
      go_ret
      exact ⟨rfl, B2.out⟩
theorem gfits_nil (size : Int) (w : World) : Calls Try.prog 10 #[.pointer none, .int .i64 size] w (R1 1 w) := by
  go_enter Try.func10, Try.ntmps10
  go_wp2
  go_ret
  exact ⟨rfl, rfl⟩
end
end Go.Proofs.Ytfkegbipfekbdaa.Room
/-
  Many pages, taken, and given back, one more each time. No statement about a Go function.
-/
namespace Go.Proofs.Ytfkegbipfekbdaa.Room

/-- One page more. -/
theorem takeN_last : ∀ (j : Nat) (c : Int) (O fl : List Int) (x : Int), fl[j]? = some x → takeN (j + 1) c O fl = ((takeN j c O fl).1.set x.toNat c, (takeN j c O fl).2.1.tail, (takeN j c O fl).2.2 ++ [x])
  | _, _, _, [], x, h => by simp at h
  | 0, c, O, y :: r, x, h => by
    simp at h
    subst h
    simp [takeN]
  | j + 1, c, O, y :: r, x, h => by
    have ih := takeN_last j c (O.set y.toNat c) r x (by simpa using h)
    rw [takeN, ih]
    simp [takeN]
theorem giveN_last : ∀ (l : List Int) (O fl : List Int) (j : Nat) (x : Int), l[j]? = some x → giveN (l.take (j + 1)) O fl = ((giveN (l.take j) O fl).1.set x.toNat (-1), x :: (giveN (l.take j) O fl).2)
  | [], _, _, _, _, h => by simp at h
  | y :: r, O, fl, 0, x, h => by
    simp at h
    subst h
    simp [giveN]
  | y :: r, O, fl, j + 1, x, h => by
    have := giveN_last r (O.set y.toNat (-1)) (y :: fl) j x (by simpa using h)
    simpa [giveN] using this
end Go.Proofs.Ytfkegbipfekbdaa.Room
/-
  Package room, its ground: a large thing comes, or goes ('Gm.lay', 'Gm.go'). No statement about a Go function.
-/
namespace Go.Proofs.Ytfkegbipfekbdaa.Room
open Go.ChangeShapes Go.WideShapes Go.ChangeAt Go.RowKit
open Sh (Shl Ps Sw Uw Sr Sm Fx Adr Lab Nxt Far nums usedS mem_nums)
set_option maxRecDepth 100000

theorem firsts_sub {l : List (Int × List Int)} {i : Int} (h : i ∈ firsts l) : i ∈ lgAll l := by
  obtain ⟨p, hp, rfl⟩ := List.mem_map.1 h
  exact List.mem_flatMap.2 ⟨p, hp, by simp⟩
theorem firsts_mem {l : List (Int × List Int)} {p : Int × List Int} (h : p ∈ l) : p.1 ∈ firsts l := List.mem_map.2 ⟨p, h, rfl⟩
/-- No two things have the first page in common. -/
theorem first_one : ∀ (l : List (Int × List Int)) (p q : Int × List Int), (lgAll l).Nodup → p ∈ l → q ∈ l → p.1 = q.1 → p = q
  | [], _, _, _, h, _, _ => by simp at h
  | z :: r, p, q, hn, hp, hq, e => by
    have e1 : lgAll (z :: r) = (z.1 :: z.2) ++ lgAll r := by simp [lgAll]
    rw [e1] at hn
    obtain ⟨_, n2, n3⟩ := List.nodup_append.1 hn
    rcases List.mem_cons.1 hp with h1 | h1
    · rcases List.mem_cons.1 hq with h2 | h2
      · rw [h1, h2]
      · subst h1
        exact absurd e (n3 p.1 (by simp) q.1 (firsts_sub (firsts_mem h2)))
    · rcases List.mem_cons.1 hq with h2 | h2
      · subst h2
        exact absurd e.symm (n3 q.1 (by simp) p.1 (firsts_sub (firsts_mem h1)))
      · exact first_one r p q n2 h1 h2 e
theorem firsts_filter {l : List (Int × List Int)} {p : Int × List Int} (hn : (lgAll l).Nodup) (hp : p ∈ l) (i : Int) : i ∈ firsts (l.filter (· != p)) ↔ i ≠ p.1 ∧ i ∈ firsts l := by
  constructor
  · intro h
    obtain ⟨q, hq, rfl⟩ := List.mem_map.1 h
    obtain ⟨q1, q2⟩ := List.mem_filter.1 hq
    exact ⟨fun e => by
      have := first_one l q p hn q1 hp e
      subst this
      simp at q2, firsts_mem q1⟩
  · rintro ⟨h1, h2⟩
    obtain ⟨q, hq, rfl⟩ := List.mem_map.1 h2
    exact firsts_mem (List.mem_filter.2 ⟨hq, by
      have : q ≠ p := fun e => h1 (by rw [e])
      simpa using this⟩)
theorem filter_len {l : List (Int × List Int)} {p : Int × List Int} (hn : (lgAll l).Nodup) (hp : p ∈ l) : (l.filter (· != p)).length + 1 = l.length := by
  induction l with
  | nil => simp at hp
  | cons z r ih =>
    have e1 : lgAll (z :: r) = (z.1 :: z.2) ++ lgAll r := by simp [lgAll]
    rw [e1] at hn
    obtain ⟨_, n2, n3⟩ := List.nodup_append.1 hn
    by_cases hz : z = p
    · subst hz
      have hr : r.filter (· != z) = r := by
        rw [List.filter_eq_self]
        intro q hq
        have : q ≠ z := fun e => by
          subst e
          exact n3 q.1 (by simp) q.1 (firsts_sub (firsts_mem hq)) rfl
        simpa using this
      rw [List.filter_cons, if_neg (by simp), hr, List.length_cons]
    · have hp' : p ∈ r := by
        rcases List.mem_cons.1 hp with q | q
        · exact absurd q.symm hz
        · exact q
      have := ih n2 hp'
      rw [List.filter_cons, if_pos (by simpa using hz), List.length_cons, List.length_cons]
      omega
section
variable {w w' : World} {y : Gx} {x : Nat → Fx} {A : Nat → Adr} {lab : Nat → Lab} {V : Int → Value} {Q : Nat → Prop} {r : Rom} {S : Nat → Prop} {k0 q g : Nat} {rest : List Int}
theorem lay_is {K : Nat} (hfl : r.fl = (k0 : Int) :: rest) (c : Cf) (q : Nat) (hq : q ≤ rest.length) (hw : Pl.Pw K r.O r.fl) (hc : c.cn ≤ 16) :
    layN c r (q + 1) = (⟨(takeN (q + 1) c.cn r.O r.fl).1, rest.drop q, r.sh, r.lg ++ [((k0 : Int), rest.take q)], r.st + 4 * ((q + 1 : Nat) : Int) + ((q + 1 : Nat) : Int) - 1⟩, ⟨-1, (k0 : Int), 0, rest.take q⟩) := by
  obtain ⟨_, f2, f3, _⟩ := takeN_facts (c := (c.cn : Int)) (q + 1) r.O r.fl hw (by omega) (fit16 hc) (by rw [hfl]; simp; omega)
  unfold layN
  rw [f2, f3, hfl]
  simp
/-- What a room's other parts keep, behind what turns its pool and its map. -/
theorem Gm.shvs (h : Gm w y x A lab V Q r) (hb : But S w w') (hS : ∀ i, i < w.heap.size → S i → i = y.pp ∨ i = y.pa ∨ i = y.mm ∨ ¬ Ftp y lab Q i) {O' fl' : List Int} (hp : Pl.Pm w' y.pp y.pa y.K O' fl') : Shv w' y.c.cn x A lab ⟨O', fl', r.sh, r.lg, r.st⟩ ∧ But (fun i => ¬ Q i) w w' := by
  have hq := h.lay.q
  refine ⟨h.shv.swim h.fx hp hb fun i hi s k hk => ?_, hb.mono fun i hi s q => ?_⟩
  · have none_of : ¬ Any y.c.cn lab i → lab k i = none ∨ lab k i = some (-2) := fun z => by
      cases e : lab k i with
      | none => exact Or.inl rfl
      | some t => exact absurd ⟨k, hk, by rw [e]; simp⟩ z
    rcases hS i hi s with e | e | e | e
    · rw [e]; exact Or.inr (h.lay.pp k hk).1
    · rw [e]; exact Or.inr (h.lay.pp k hk).2
    · rw [e] at none_of ⊢; exact none_of h.lay.mm.1
    · exact none_of fun z => e (Or.inr (Or.inl z))
  · rcases hS i hi s with e | e | e | e
    · exact (hq i q).2.2.1 e
    · exact (hq i q).2.2.2 e
    · exact (hq i q).2.1 e
    · exact e (Or.inl q)
/-- A large thing comes. -/
theorem Gm.lays (h : Gm w y x A lab V Q r) (hb : But S w w') (hS : ∀ i, i < w.heap.size → S i → i = y.pp ∨ i = y.pa ∨ i = y.mm ∨ ¬ Ftp y lab Q i) (hfl : r.fl = (k0 : Int) :: rest) (hq : q ≤ rest.length)
    (hp : Pl.Pm w' y.pp y.pa y.K (takeN (q + 1) y.c.cn r.O r.fl).1 (rest.drop q)) (hm : Lm w' y.mm (firsts r.lg ++ [(k0 : Int)]) (updV V (k0 : Int) (.slice (some ⟨g, 0, none⟩) q q))) (hg : w.heap.size ≤ g) (hi : Ints w' w'.heap.size (some ⟨g, 0, none⟩) q (rest.take q)) (hgl : g < w'.heap.size) :
    Gm w' y x A lab (updV V (k0 : Int) (.slice (some ⟨g, 0, none⟩) q q)) (fun i => Q i ∨ i = g) (layN y.c r (q + 1)).1 := by
  obtain ⟨s1, bq⟩ := h.shvs hb hS hp
  have n16 := h.n16
  have hwf := h.wf.lay (m := q + 1) n16 (by omega) (by rw [hfl]; simp; omega)
  have hQ : But (fun i => ¬ (Q i ∨ i = g)) w w' := bq.mono fun i hi s z => by
    rcases z with z | z
    · exact s z
    · omega
  have notin : (k0 : Int) ∉ firsts r.lg := fun z => by
    obtain ⟨j, e, hj, hO⟩ := h.wf.lgo _ (firsts_sub z)
    obtain ⟨j', e', hO'⟩ := h.wf.pool.free (k0 : Int) (by rw [hfl]; simp)
    have : j = j' := by omega
    subst this
    rw [hO] at hO'
    have := Option.some.inj hO'
    omega
  have qlen : (rest.take q).length = q := by rw [List.length_take]; omega
  have sub : ∀ {a : Option Addr} {n c : Nat} {l : List Int}, Iq w Q a n c l → Iq w' (fun i => Q i ∨ i = g) a n c l := fun z => (z.swap fun _ _ z => Or.inl z).but hQ
  rw [lay_is hfl y.c q hq h.wf.pool n16] at hwf ⊢
  refine ⟨h.cl.but bq (fun z => z h.lay.g) (fun z => z h.lay.sb), h.fx, ⟨s1.each, s1.apart⟩, hp, sub h.sizes, ?_, fun p hp => ?_, ⟨Or.inl h.lay.g, Or.inl h.lay.sb, fun i z => ?_, h.lay.mm, h.lay.pp⟩, fun i z => ?_, hwf, h.may, h.cn, h.k1, h.k2⟩
  · have e : firsts (r.lg ++ [((k0 : Int), rest.take q)]) = firsts r.lg ++ [(k0 : Int)] := by simp [firsts]
    show Lm w' y.mm (firsts (r.lg ++ [((k0 : Int), rest.take q)])) _
    rw [e]
    exact hm
  · rcases List.mem_append.1 hp with z | z
    · obtain ⟨a, cap, e, iq⟩ := h.large p z
      have ne : p.1 ≠ (k0 : Int) := fun e => notin (by rw [← e]; exact firsts_mem z)
      exact ⟨a, cap, by unfold updV; rw [if_neg ne]; exact e, sub iq⟩
    · simp at z
      subst z
      refine ⟨some ⟨g, 0, none⟩, q, by unfold updV; rw [if_pos rfl, qlen], ?_⟩
      show Iq w' _ (some ⟨g, 0, none⟩) (rest.take q).length q (rest.take q)
      rw [qlen]
      exact ⟨hi, Nat.le_refl _, fun _ => ⟨g, 0, rfl, Or.inr rfl⟩⟩
  · rcases z with z | rfl
    · exact h.lay.q i z
    · have a1 := h.map.lt
      have a2 := h.pool.psize
      have a3 := h.pool.asize
      exact ⟨fun z => by have := h.shv.fin z; omega, by omega, by omega, by omega⟩
  · rcases z with z | rfl
    · exact Nat.lt_of_lt_of_le (h.fin i z) hb.size
    · exact hgl
theorem ftp_lay {i : Nat} (hi : i < w.heap.size) (hg : w.heap.size ≤ g) (h : Ftp y lab (fun i => Q i ∨ i = g) i) : Ftp y lab Q i := by
  rcases h with (h | h) | h
  · exact Or.inl h
  · omega
  · exact Or.inr h
/-- A large thing goes. -/
theorem Gm.goes (h : Gm w y x A lab V Q r) (hb : But S w w') (hS : ∀ i, i < w.heap.size → S i → i = y.pp ∨ i = y.pa ∨ i = y.mm ∨ ¬ Ftp y lab Q i) {p : Int × List Int} (hmem : p ∈ r.lg)
    (hp : Pl.Pm w' y.pp y.pa y.K (giveN (p.1 :: p.2) r.O r.fl).1 (giveN (p.1 :: p.2) r.O r.fl).2) (hm : Lm w' y.mm (firsts (r.lg.filter (· != p))) V) : Gm w' y x A lab V Q (goN r p) := by
  obtain ⟨s1, bq⟩ := h.shvs hb hS hp
  refine ⟨h.cl.but bq (fun z => z h.lay.g) (fun z => z h.lay.sb), h.fx, ⟨s1.each, s1.apart⟩, hp, h.sizes.but bq, hm, fun q hq => ?_, h.lay, fun i q => Nat.lt_of_lt_of_le (h.fin i q) hb.size, h.wf.go hmem, h.may, h.cn, h.k1, h.k2⟩
  obtain ⟨a, cap, e, z⟩ := h.large q (List.mem_filter.1 hq).1
  exact ⟨a, cap, e, z.but bq⟩
end
end Go.Proofs.Ytfkegbipfekbdaa.Room
