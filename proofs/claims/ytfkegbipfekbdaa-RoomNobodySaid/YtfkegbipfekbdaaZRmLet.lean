import Derived.Test.YtfkegbipfekbdaaZRmOut
/-
  Package room: dropLarge, a large thing that there is.
-/
namespace Go.Proofs.Ytfkegbipfekbdaa.Room
open Go.ChangeShapes Go.WideShapes Go.ChangeAt Go.RowKit
open Sh (Shl Ps Sw Uw Sr Sm Fx Adr Lab Nxt Far nums usedS mem_nums)
set_option maxRecDepth 100000

/-- So many of its pages have gone back. -/
structure Gvn (w0 wr : World) (y : Gx) (r : Rom) (L : List Int) (j : Nat) : Prop where
  pm : Pl.Pm wr y.pp y.pa y.K (giveN (L.take j) r.O r.fl).1 (giveN (L.take j) r.O r.fl).2
  bt : But (Pl.Own y.pp y.pa) w0 wr
section
variable {w w0 w1 w4 w5 w6 wr : World} {y : Gx} {x : Nat → Fx} {A : Nat → Adr} {lab : Nat → Lab} {V : Int → Value} {Q : Nat → Prop} {r r' : Rom} {m : Nat} {l n : Int} {ps L : List Int} {j : Nat}
theorem Gvn.on (h : Gvn w0 wr y r L j) (hb : But (fun _ => False) wr w4) : Gvn w0 w4 y r L j :=
  ⟨h.pm.but hb id id (fun _ z => z.elim), h.bt.then hb fun _ _ z => z.elim⟩
theorem large_fit (h : Gm w y x A lab V Q r) (hmem : (n, ps) ∈ r.lg) : (n :: ps).Nodup ∧ (∀ z ∈ n :: ps, ∃ k : Nat, z = (k : Int) ∧ k < y.K ∧ r.O[k]? = some (y.c.cn : Int)) ∧ ps.length + 1 ≤ y.K := by
  have hnd : (n :: ps).Nodup := (List.pairwise_flatMap.1 h.wf.lgn).1 (n, ps) hmem
  have ho : ∀ z ∈ n :: ps, ∃ k : Nat, z = (k : Int) ∧ k < y.K ∧ r.O[k]? = some (y.c.cn : Int) := fun z hz => h.wf.lgo z (List.mem_flatMap.2 ⟨(n, ps), hmem, hz⟩)
  refine ⟨hnd, ho, ?_⟩
  have := Sh.nodup_le y.K (n :: ps) hnd (fun z hz => by obtain ⟨k, e, hk, _⟩ := ho z hz; exact ⟨k, e, hk⟩)
  simpa using this
theorem Gvn.next (h : Gm w y x A lab V Q r) (hmem : (n, ps) ∈ r.lg) (g : Gvn w0 wr y r (n :: ps) j) {z : Int} (hz : (n :: ps)[j]? = some z) :
    Calls Try.prog 71 #[.pointer (some ⟨y.pp, 0, none⟩), .int .i64 z] wr fun e w5 => e = .returned (.int .i64 0) ∧ Gvn w0 w5 y r (n :: ps) (j + 1) ∧ But (Pl.Own y.pp y.pa) wr w5 := by
  obtain ⟨hnd, ho, _⟩ := large_fit h hmem
  obtain ⟨k, rfl, hk, hO⟩ := ho z (List.mem_of_getElem? hz)
  have htk : (n :: ps).take (j + 1) = (n :: ps).take j ++ [(k : Int)] := by rw [List.take_add_one, hz]; rfl
  have hnot : (k : Int) ∉ (n :: ps).take j := by
    have := hnd.sublist (List.take_sublist (j + 1) _)
    rw [htk] at this
    exact fun q => (List.nodup_append.1 this).2.2 _ q _ (by simp) rfl
  obtain ⟨_, _, _, f4⟩ := giveN_facts (c := (y.c.cn : Int)) ((n :: ps).take j) r.O r.fl h.wf.pool (by omega) (hnd.sublist (List.take_sublist _ _)) (fun q hq => by
    obtain ⟨i, e, _, hi⟩ := ho q (List.mem_of_mem_take hq)
    exact ⟨i, e, hi⟩)
  have hk2 := f4 k hO hnot
  refine (Pl.give_ok g.pm k hk hk2 (by omega)).mono ?_
  rintro e w5 ⟨rfl, p5, b5⟩
  refine ⟨rfl, ⟨?_, g.bt.trans b5⟩, b5⟩
  rw [giveN_last (n :: ps) r.O r.fl j (k : Int) hz]
  dsimp only
  rw [Int.toNat_natCast]
  exact p5
/-- Behind the loop: what is counted, and goes out of the map; and what is charged at the end. -/
theorem Gw.gone (h : Gw w y x A lab V Q m l r) (b0 : Below w.heap.size w w0) (hmem : (n, ps) ∈ r.lg) (g : Gvn w0 wr y r (n :: ps) (ps.length + 1)) :
    wr.cell? ⟨y.g, 0, none⟩ = some (.pointer (some ⟨m, 0, none⟩)) ∧ Mt wr m r.st l ∧ ∀ w4, Mt w4 m (r.st + ps.length) l → But (· = m) wr w4 →
      w4.cell? ⟨y.g, 6, none⟩ = some (.map (some y.mm)) ∧ (∀ (k : Nat) (ty : TypeId), ∃ w5, (Builtin.delete_ #[63, 3] ty #[.map (some y.mm), .int .i64 n]).run Try.prog (w4.drewN k) = .ok (.tuple #[]) w5 ∧
        CallsD Try.prog 37 #[.pointer (some ⟨y.g, 0, none⟩), .int .i64 (heldR r)] .returning w5 fun e u' w8 => u' = .returning ∧ (e = .returned (.tuple #[]) ∧ GN y x lab Q m (goN r (n, ps)) w w8 ∧ Mt w8 m (goN r (n, ps)).st l)) := by
  obtain ⟨og, om, on, gm⟩ := h.own
  obtain ⟨hnd, ho, hlen⟩ := large_fit h.gm hmem
  have h0 := h.below b0
  have bt := g.bt
  have c0 := (h0.gm.cl.but bt og (fun e => by
    have z := h0.gm.lay.q _ h0.gm.lay.sb
    rcases e with e | e
    · exact z.2.2.1 e
    · exact z.2.2.2 e))
  have k0c := c0.k0
  rw [h.mv] at k0c
  have mr := h0.mt.but bt om
  refine ⟨k0c, mr, fun w4 m4 b4 => ?_⟩
  have c4 : Gc w4 y x := c0.but b4 gm (fun e => h.mo (Or.inl (by rw [← e]; exact h.gm.lay.sb)))
  have bt4 : But (fun i => Pl.Own y.pp y.pa i ∨ i = m) w0 w4 := (bt.mono fun _ _ z => Or.inl z).then b4 fun i _ e => Or.inr e
  have notm : ∀ i, Trn y lab i → i ≠ m := fun i z e => h.apart (by rw [← e]; exact z)
  have map4 : Lm w4 y.mm (firsts r.lg) V := h0.gm.map.but bt4 (fun e => by
    rcases e with (e | e) | e
    · exact h.gm.lay.mm.2.1 e
    · exact h.gm.lay.mm.2.2 e
    · exact notm y.mm (Or.inr (Or.inl rfl)) e)
  have np : ∀ i, i = y.pp ∨ i = y.pa → i ≠ m := fun i z => notm i (Or.inr (Or.inr z))
  have p4 := g.pm.but b4 (np _ (Or.inl rfl)) (np _ (Or.inr rfl)) (Mt.far mr)
  rw [List.take_of_length_le (by simp)] at p4
  have kfit : Pl.Fit n := by
    obtain ⟨k, e, hk, _⟩ := ho n (by simp)
    have := h.gm.k2
    unfold Pl.Fit
    omega
  have hnf : n ∈ firsts r.lg := firsts_mem hmem
  refine ⟨c4.k6, fun k ty => ?_⟩
  have bd : But (fun _ => False) w4 (w4.drewN k) := (But.refl _ w4).drewN k
  obtain ⟨w5, hr5, m5, b5⟩ := (map4.but bd id).del (ks' := firsts (r.lg.filter (· != (n, ps)))) (firsts_filter h.gm.wf.lgn hmem) (by
    have := filter_len h.gm.wf.lgn hmem
    unfold firsts
    rw [List.length_map, List.length_map]
    exact this) hnf kfit ty
  refine ⟨w5, hr5, ?_⟩
  have pd := p4.but bd id id (fun _ z => z.elim)
  have p5 := pd.but b5 (Ne.symm h.gm.lay.mm.2.1) (Ne.symm h.gm.lay.mm.2.2) (fun i e _ v hv => by
    rw [e, (map4.but bd id).nocell] at hv
    cases hv)
  have b05 : But (fun i => (Pl.Own y.pp y.pa i ∨ i = m) ∨ i = y.mm) w w5 := ((Below.but b0 _).trans ((bt4.mono fun _ _ z => Or.inl z).then bd fun _ _ z => z.elim)).then b5 fun i _ e => Or.inr e
  have hS : ∀ i, i < w.heap.size → ((Pl.Own y.pp y.pa i ∨ i = m) ∨ i = y.mm) → i = y.pp ∨ i = y.pa ∨ i = y.mm ∨ ¬ Ftp y lab Q i := fun i hi s => by
    rcases s with ((e | e) | e) | e
    · exact Or.inl e
    · exact Or.inr (Or.inl e)
    · exact Or.inr (Or.inr (Or.inr (by rw [e]; exact h.mo)))
    · exact Or.inr (Or.inr (Or.inl e))
  have gm5 := h.gm.goes b05 hS hmem p5 m5
  have mt5 : Mt w5 m (r.st + ps.length) l := (m4.but bd id).but b5 (fun e => notm y.mm (Or.inr (Or.inl rfl)) e.symm)
  have hst := h.st
  have K2 := h.gm.k2
  have f1 := gm5.wf.pool.few
  obtain ⟨_, f2, _, _⟩ := giveN_facts (c := (y.c.cn : Int)) (n :: ps) r.O r.fl h.gm.wf.pool (by omega) hnd (fun q hq => by
    obtain ⟨i, e, _, hi⟩ := ho q hq
    exact ⟨i, e, hi⟩)
  have efl : (goN r (n, ps)).fl.length = r.fl.length + (ps.length + 1) := by
    show (giveN (n :: ps) r.O r.fl).2.length = _
    rw [f2]
    simp
    omega
  have eh : max (heldR r) (heldR (goN r (n, ps))) - min (heldR r) (heldR (goN r (n, ps))) = (ps.length : Int) + 1 := by
    rw [h.gm.held.2.2, gm5.held.2.2, efl]
    omega
  refine (gcharge_any gm5 h.mv mt5 (by omega) (heldR r) ((ps.length : Int) + 1) eh (by omega) .returning).mono ?_
  rintro e u' w8 ⟨rfl, rfl, m8, b8⟩
  have est : (goN r (n, ps)).st = r.st + ps.length + 4 * ((ps.length : Int) + 1) := by
    show r.st + 4 * ((ps.length : Int) + 1) + ((ps.length : Int) + 1) - 1 = _
    omega
  have mo5 : ∀ i, i = m → ¬ Ftp y lab Q i := fun i e z => h.mo (by rw [← e]; exact z)
  refine ⟨rfl, rfl, ⟨A, lab, _, _, gm5.but b8 mo5 (Mt.far mt5), fun i _ z => z, ?_⟩, by rw [est]; exact m8⟩
  refine (b05.mono fun i hi s => ?_).then b8 (fun i _ e => Or.inr e)
  rcases s with ((e | e) | e) | e
  · exact Or.inl (Or.inr (Or.inr (Or.inl e)))
  · exact Or.inl (Or.inr (Or.inr (Or.inr e)))
  · exact Or.inr e
  · exact Or.inl (Or.inr (Or.inl e))
/-- The cells that dropLarge loads. -/
def Fv (v : World) (y : Gx) (b : Nat) (n : Int) (pa : Option Addr) (pl pc : Nat) : Prop :=
  v.cell? ⟨y.g, 1, none⟩ = some (.pointer (some ⟨y.pp, 0, none⟩)) ∧ v.cell? ⟨b, 1, none⟩ = some (.int .i64 n) ∧ v.cell? ⟨b, 3, none⟩ = some (.slice pa pl pc)
theorem Fv.but {S : Nat → Prop} {b : Nat} {pa : Option Addr} {pl pc : Nat} (h : Fv w y b n pa pl pc) (hb : But S w w4) (hg : ¬ S y.g) (hn : ¬ S b) : Fv w4 y b n pa pl pc :=
  have h1 : y.g < w.heap.size := lt_of_cell (p := ⟨y.g, 1, none⟩) h.1
  have h2 : b < w.heap.size := lt_of_cell (p := ⟨b, 1, none⟩) h.2.1
  ⟨(hb.cell (p := ⟨y.g, 1, none⟩) h1 hg).trans h.1, (hb.cell (p := ⟨b, 1, none⟩) h2 hn).trans h.2.1, (hb.cell (p := ⟨b, 3, none⟩) h2 hn).trans h.2.2⟩
set_option maxHeartbeats 4000000 in
theorem gdropl_any (h : Gw w y x A lab V Q m l r) (cl i : Int) (hmem : (n, ps) ∈ r.lg) (pa : Option Addr) (pl pc : Nat) (hps : Ints w w.heap.size pa pl ps) (hpa : 0 < pl → ∃ b o, pa = some ⟨b, o, none⟩ ∧ ¬ Ftp y lab Q b ∧ b ≠ m) :
    Calls Try.prog 42 #[.pointer (some ⟨y.g, 0, none⟩), .agg #[.int .i64 cl, .int .i64 n, .int .i64 i, .slice pa pl pc]] w fun e w' => e = .returned (.tuple #[]) ∧ GN y x lab Q m (goN r (n, ps)) w w' ∧ Mt w' m (goN r (n, ps)).st l := by
  have b0 : Below w.heap.size w (w.alloc (.cells #[.int .i64 cl, .int .i64 n, .int .i64 i, .slice pa pl pc] 36)) := below1 w _
  have h0 := h.below b0
  obtain ⟨og, om, on, gm⟩ := h0.own
  obtain ⟨hnd, ho, hlen⟩ := large_fit h.gm hmem
  have K2 := h.gm.k2
  have k1 := h0.gm.cl.k1
  have eh : (y.K : Int) - (r.fl.length : Int) = heldR r := h0.gm.held.2.2.symm
  have HH := Lib.hid (Pl.held_any h0.gm.pool)
  rw [eh] at HH
  have lp : ps.length = pl := hps.len
  have ob : ¬ Pl.Own y.pp y.pa w.heap.size := h.own.2.2.1 _ (Nat.le_refl _)
  have mb : w.heap.size ≠ m := by have := h.ms; omega
  have F0 : Fv (w.alloc (.cells #[.int .i64 cl, .int .i64 n, .int .i64 i, .slice pa pl pc] 36)) y w.heap.size n pa pl pc := ⟨k1, by go_simp, by go_simp⟩
  have G0 : ∀ v, But (fun _ => False) (w.alloc (.cells #[.int .i64 cl, .int .i64 n, .int .i64 i, .slice pa pl pc] 36)) v → Gvn (w.alloc (.cells #[.int .i64 cl, .int .i64 n, .int .i64 i, .slice pa pl pc] 36)) v y r (n :: ps) 0 := fun v hv => ⟨h0.gm.pool.but hv id id (fun _ z => z.elim), hv.mono fun _ _ z => z.elim⟩
  have HG0 : Hid (∀ v, But (fun _ => False) (w.alloc (.cells #[.int .i64 cl, .int .i64 n, .int .i64 i, .slice pa pl pc] 36)) v → Calls Try.prog 71 #[.pointer (some ⟨y.pp, 0, none⟩), .int .i64 n] v fun e w5 => e = .returned (.int .i64 0) ∧ Gvn (w.alloc (.cells #[.int .i64 cl, .int .i64 n, .int .i64 i, .slice pa pl pc] 36)) w5 y r (n :: ps) 1 ∧ But (Pl.Own y.pp y.pa) v w5) := Lib.hid fun v hv => Gvn.next h.gm hmem (G0 v hv) rfl
  have HFv : Hid (∀ wr j, Gvn (w.alloc (.cells #[.int .i64 cl, .int .i64 n, .int .i64 i, .slice pa pl pc] 36)) wr y r (n :: ps) j → Fv wr y w.heap.size n pa pl pc) := Lib.hid fun wr j g => F0.but g.bt og ob
  have HI : Hid (∀ wr j, Gvn (w.alloc (.cells #[.int .i64 cl, .int .i64 n, .int .i64 i, .slice pa pl pc] 36)) wr y r (n :: ps) j → Ints wr wr.heap.size pa pl ps) := Lib.hid fun wr j g => ((hps.on b0).far g.bt (Nat.le_refl _) fun z => by
    obtain ⟨b, o, e, h1, h2⟩ := hpa z
    exact ⟨b, o, e, fun q => h1 (Or.inr (Or.inr (Or.inr q)))⟩).more g.bt.size
  have HN : Hid (∀ wr j z, Gvn (w.alloc (.cells #[.int .i64 cl, .int .i64 n, .int .i64 i, .slice pa pl pc] 36)) wr y r (n :: ps) (j + 1) → ps[j]? = some z → Calls Try.prog 71 #[.pointer (some ⟨y.pp, 0, none⟩), .int .i64 z] wr fun e w5 => e = .returned (.int .i64 0) ∧ Gvn (w.alloc (.cells #[.int .i64 cl, .int .i64 n, .int .i64 i, .slice pa pl pc] 36)) w5 y r (n :: ps) (j + 1 + 1)) := Lib.hid fun wr j z g hz => (Gvn.next h.gm hmem g (by rw [List.getElem?_cons_succ]; exact hz)).mono fun e w5 q => ⟨q.1, q.2.1⟩
  have HE : Hid (∀ wr, Gvn (w.alloc (.cells #[.int .i64 cl, .int .i64 n, .int .i64 i, .slice pa pl pc] 36)) wr y r (n :: ps) (pl + 1) → _) := Lib.hid fun wr g => h.gone b0 hmem (by rw [lp]; exact g)
  rw [lp] at HE
  have HK : Hid (∀ wr v, But (· = m) wr v → Fv wr y w.heap.size n pa pl pc → Fv v y w.heap.size n pa pl pc) := Lib.hid fun wr v b f => f.but b gm mb
  have HK0 : Hid (∀ wr v u, But (· = m) wr v → wr.cell? ⟨y.g, 0, none⟩ = some u → v.cell? ⟨y.g, 0, none⟩ = some u) := Lib.hid fun wr v u b c => (b.cell (p := ⟨y.g, 0, none⟩) (lt_of_cell (p := ⟨y.g, 0, none⟩) c) gm).trans c
  have HW3 : Hid (IntKind.i64.wrap (pl : Int) = (pl : Int)) := Lib.hid (IntWalk.i64_in _ (by omega))
  have QK : Hid (pl ≤ 1024) := Lib.hid (by omega)
  have hst := h.st
  have em : more r.st (pl : Int) = r.st + pl := by unfold more; split <;> omega
  have HF0 := Lib.hid F0
  clear h h0 og om on gm hnd ho hlen K2 eh lp ob mb F0 G0 hps hpa hmem hst
  go_enter_defers Try.func42, Try.ntmps42
  go_wp2_with fail
  refine HH.out.mono ?_
  rintro e w' ⟨rfl, k, rfl⟩
  generalize w.alloc (.cells #[.int .i64 cl, .int .i64 n, .int .i64 i, .slice pa pl pc] 36) = W at *
  have bk : But (fun _ => False) W (W.drewN k) := (But.refl _ W).drewN k
  have bD : But (fun _ => False) W (W.drewN k).drew := bk.drew
  have kW : (W.drewN k).cell? ⟨y.g, 1, none⟩ = some (.pointer (some ⟨y.pp, 0, none⟩)) ∧ (W.drewN k).cell? ⟨w.heap.size, 1, none⟩ = some (.int .i64 n) := ⟨HF0.out.1, HF0.out.2.1⟩
  have kD : (W.drewN k).drew.cell? ⟨y.g, 1, none⟩ = some (.pointer (some ⟨y.pp, 0, none⟩)) ∧ (W.drewN k).drew.cell? ⟨w.heap.size, 1, none⟩ = some (.int .i64 n) := ⟨HF0.out.1, HF0.out.2.1⟩
  go_wp2_with fail
  go_region_held3 (fun v => v.cell? ⟨y.g, 1, none⟩ = some (.pointer (some ⟨y.pp, 0, none⟩)) ∧ v.cell? ⟨w.heap.size, 1, none⟩ = some (.int .i64 n))
    (first | with_reducible exact kD | with_reducible exact k4 | with_reducible exact kW | go_keep)
    ((go_at_call 71; refine (HG0.out _ ?_).mono ?_; exact bD; rintro e w4 ⟨rfl, g4, b4⟩; have f4 := HFv.out _ _ g4; have k4 := And.intro f4.1 f4.2.1))
  have G4 := Lib.hid g4
  obtain ⟨q1, q2, q3⟩ := f4
  clear g4 b4 k4 kW kD bD bk
  go_wp2
  clear q1 q2 q3
  go_loopw [22, 5] (fun i _ wr => ∃ j : Nat, j ≤ pl ∧ i = .int .i64 (j : Int) ∧ Gvn W wr y r (n :: ps) (j + 1)) (fun i _ _ => pl - (intOf i).toNat)
  case atStart => exact ⟨0, by omega, rfl, G4.out⟩
  case round =>
    obtain ⟨j, hj, rfl, hg⟩ := hrel
    have qk := QK.out
    have ff := HFv.out _ _ hg
    by_cases hlt : j < pl
    · have dj : decide ((j : Int) < (pl : Int)) = true := decide_eq_true (by omega)
      have dj' : decide (j < pl) = true := decide_eq_true hlt
      have hin := HI.out _ _ hg
      obtain ⟨b, o, rfl, l1, kc⟩ := hin.head (by omega)
      obtain ⟨z, hz⟩ : ∃ z, ps[j]? = some z := ⟨_, List.getElem?_eq_getElem (by rw [hin.len]; exact hlt)⟩
      have cz := kc j z hz
      have q1 := ff.1
      have HC := Lib.hid (HN.out wr j z hg hz)
      clear hin kc hz hg ff HE
      go_wp2_with fail
      refine HC.out.mono ?_
      rintro e w5 ⟨rfl, g5⟩
      have G5 := Lib.hid g5
      clear g5
      go_wp2
      go_round
      case rel => exact ⟨j + 1, by omega, by go_num, G5.out⟩
      case measure => simp [intOf]; omega
    · have dj : decide ((j : Int) < (pl : Int)) = false := decide_eq_false (by omega)
      have dj' : decide (j < pl) = false := decide_eq_false hlt
      obtain rfl : j = pl := by omega
      obtain ⟨c0, mr, hl⟩ := HE.out wr hg
      have HC : Hid (∀ v, But (fun _ => False) wr v → Calls Try.prog 39 #[.pointer (some ⟨m, 0, none⟩), .int .i64 (j : Int)] v fun e w' => e = .returned (.tuple #[]) ∧ Mt w' m (r.st + j) l ∧ But (· = m) v w') := Lib.hid fun v hv => by
        have := charge_any m r.st l (j : Int) v (mr.but hv id)
        rw [em] at this
        exact this
      have bD : But (fun _ => False) wr wr.drew := (But.refl _ wr).drew
      have BM : Hid (∀ w4, But (· = m) wr.drew w4 → But (· = m) wr w4) := Lib.hid fun w4 b => (But.refl _ wr).drew.trans b
      have kW : wr.cell? ⟨y.g, 0, none⟩ = some (.pointer (some ⟨m, 0, none⟩)) ∧ wr.cell? ⟨w.heap.size, 3, none⟩ = some (.slice pa j pc) := ⟨c0, ff.2.2⟩
      have kD : wr.drew.cell? ⟨y.g, 0, none⟩ = some (.pointer (some ⟨m, 0, none⟩)) ∧ wr.drew.cell? ⟨w.heap.size, 3, none⟩ = some (.slice pa j pc) := ⟨c0, ff.2.2⟩
      have FF := Lib.hid ff
      have HF := Lib.hid hl
      clear hl mr hg HE HN HI HG0 ff G4
      go_wp2_with fail
      go_region_held3 (fun v => v.cell? ⟨y.g, 0, none⟩ = some (.pointer (some ⟨m, 0, none⟩)) ∧ v.cell? ⟨w.heap.size, 3, none⟩ = some (.slice pa j pc))
        (first | with_reducible exact kD | with_reducible exact k4 | with_reducible exact kW | go_keep)
        ((go_at_call 39; rw [HW3.out]; refine (HC.out _ ?_).mono ?_; exact bD; rintro e w4 ⟨rfl, m4, b4⟩; have bw := BM.out _ b4; have k4 := And.intro (HK0.out _ _ _ bw c0) (HK.out _ _ bw FF.out).2.2))
      obtain ⟨c6, hd⟩ := HF.out w4 m4 bw
      have HD := Lib.hid (hd 1)
      have f4 := HK.out _ _ bw FF.out
      have q1 := f4.2.1
      clear hd m4 b4 bw k4 kW kD bD f4 HF HC BM HK HK0
      go_wp2_with fail
      refine wp_region_noPanic ?_
      go_region_law (refine step_delete_run rfl (.tmp 45) (.tmp 47) rfl rfl rfl HD.out ?_; intro w5 hw5)
      all_goals
        refine NoPanic.normal ?_
        have H5 := Lib.hid hw5
        clear hw5
        go_wp2
        refine leaves_cons (f := 37) (args := #[.pointer (some ⟨y.g, 0, none⟩), .int .i64 (heldR r)]) (by simp) (by simp [go_sem]) ?_
        refine H5.out.mono ?_
        rintro e u' w8 ⟨rfl, rfl, gn, m8⟩
        exact ⟨_, results_none rfl _ _ _, rfl, gn, m8⟩
end
end Go.Proofs.Ytfkegbipfekbdaa.Room
