import Derived.Test.YtijkigibcpgciaaZShAsk
import Derived.Test.YtijkigibcpgciaaZGA
/-
  Package shelf: grow (a page more), met by a contract.
-/
namespace Go.Proofs.Ytijkigibcpgciaa.Sh
open Go.ChangeShapes Go.WideShapes Go.ChangeAt Go.RowKit
set_option maxRecDepth 100000

section
variable {w : World} {x : Fx} {A : Adr} {lab : Lab} {O fl op r : List Int} {ps : Ps} {u : Int}
theorem Cl.two (h : Cl w x u) : w.cell? ⟨x.s, 0, none⟩ = some (.pointer (some ⟨x.pp, 0, none⟩)) ∧ w.cell? ⟨x.s, 1, none⟩ = some (.int .i64 x.c) := ⟨h.k0, h.k1⟩
theorem grow_none (h : Sr w x A lab O [] ps op u) (c0 : 0 ≤ x.c) (c1 : x.c ≤ 9223372036854775807) : Calls Try.prog 38 #[.pointer (some ⟨x.s, 0, none⟩)] w fun e w' => e = .returned (.int .i64 5) ∧ Sr w' x A lab O [] ps op u ∧ But (fun i => lab i ≠ none) w w' := by
  have HC : Hid (∀ v, Below w.heap.size w v → Calls Try.prog 68 #[.pointer (some ⟨x.pp, 0, none⟩), .int .i64 x.c] v (Pl.TakeEnds x.pp x.pa x.K (O, [], 0, 5) v)) := Lib.hid fun v hv => by
    have := Pl.take_any (h.below hv).pool x.c ⟨by omega, c1⟩
    rw [show Pl.takeOut O [] x.c = (O, [], 0, 5) by unfold Pl.takeOut; rw [if_neg (by omega)]] at this
    exact this
  have HN : Hid (∀ v w', Below w.heap.size w v → Pl.Pm w' x.pp x.pa x.K O [] → But (Pl.Own x.pp x.pa) v w' → Cl w' x u ∧ Sr w' x A lab O [] ps op u ∧ But (fun i => lab i ≠ none) w w') := Lib.hid fun v w' hv hp hb => by
    obtain ⟨r1, r2⟩ := (h.below hv).swim hp hb
    exact ⟨r1.cl, r1, (Below.but hv _).trans r2⟩
  have kW := h.cl.two
  have kD := (h.below (belowD (Below.refl w.heap.size w))).cl.two
  have BD := belowD (Below.refl w.heap.size w)
  clear h c0 c1
  go_enter Try.func38, Try.ntmps38
  go_wp2_with fail
  go_region_held3 (fun w' => w'.cell? ⟨x.s, 0, none⟩ = some (.pointer (some ⟨x.pp, 0, none⟩)) ∧ w'.cell? ⟨x.s, 1, none⟩ = some (.int .i64 x.c))
    (first | with_reducible exact kD | with_reducible exact k4 | with_reducible exact kW | go_keep)
    ((go_at_call 68; refine (HC.out _ ?_).mono ?_; exact BD; rintro e w4 ⟨rfl, r4, b4⟩; have k4 := (HN.out _ _ BD r4 b4).1.two))
  have HZ := Lib.hid (HN.out _ _ BD r4 b4).2
  clear r4 b4 k4 kW kD BD
  go_wp2
  go_ret
  exact ⟨rfl, HZ.out⟩
set_option maxHeartbeats 1000000 in
theorem grow_ok {k : Nat} (h : Sr w x A lab O ((k : Int) :: r) ps op u) (c0 : 0 ≤ x.c) (c1 : x.c ≤ 9223372036854775807) (hno : (k : Int) ∉ nums ps) (hop : (k : Int) ∉ op) (hk : k < x.K) (few : ps.length ≤ 1024) :
    Calls Try.prog 38 #[.pointer (some ⟨x.s, 0, none⟩)] w fun e w' => e = .returned (.int .i64 0) ∧ ∃ A' lab', Sr w' x A' lab' (O.set k x.c) r (ps ++ [((k : Int), List.replicate x.B (-1))]) ((k : Int) :: op) u ∧ (∀ i, i < w.heap.size → lab' i = lab i) ∧ But (fun i => lab i ≠ none) w w' := by
  have b1 := h.b1
  have b2 := h.b2
  have k2 := h.pool.k2
  have HC : Hid (∀ v, Below w.heap.size w v → Calls Try.prog 68 #[.pointer (some ⟨x.pp, 0, none⟩), .int .i64 x.c] v (Pl.TakeEnds x.pp x.pa x.K (O.set k x.c, r, (k : Int), 0) v)) := Lib.hid fun v hv => by
    have := Pl.take_any (h.below hv).pool x.c ⟨by omega, c1⟩
    rw [show Pl.takeOut O ((k : Int) :: r) x.c = (O.set k x.c, r, (k : Int), 0) by unfold Pl.takeOut; rw [if_neg (by omega)]; rfl] at this
    exact this
  have HN : Hid (∀ v w', Below w.heap.size w v → Pl.Pm w' x.pp x.pa x.K (O.set k x.c) r → But (Pl.Own x.pp x.pa) v w' → Sr w' x A lab (O.set k x.c) r ps op u ∧ But (fun i => lab i ≠ none) w w') := Lib.hid fun v w' hv hp hb => by
    obtain ⟨r1, r2⟩ := (h.below hv).swim hp hb
    exact ⟨r1, (Below.but hv _).trans r2⟩
  have kW := h.cl.two
  have kD := (h.below (belowD (Below.refl w.heap.size w))).cl.two
  have BD := belowD (Below.refl w.heap.size w)
  have HF := Lib.hid (show ∀ i, lab i ≠ none → i < w.heap.size from h.fin)
  have HO1 := Lib.hid hno
  have HO2 := Lib.hid hop
  clear h c0 c1 hno hop
  go_enter Try.func38, Try.ntmps38
  go_wp2_with fail
  go_region_held3 (fun w' => w'.cell? ⟨x.s, 0, none⟩ = some (.pointer (some ⟨x.pp, 0, none⟩)) ∧ w'.cell? ⟨x.s, 1, none⟩ = some (.int .i64 x.c))
    (first | with_reducible exact kD | with_reducible exact k4 | with_reducible exact kW | go_keep)
    ((go_at_call 68; refine (HC.out _ ?_).mono ?_; exact BD; rintro e w4 ⟨rfl, r4, b4⟩; have k4 := (HN.out _ _ BD r4 b4).1.cl.two))
  have HZ := Lib.hid (HN.out _ _ BD r4 b4)
  have k42 := HZ.out.1.cl.k2
  clear r4 b4 k4 kW kD BD HC HN
  have HP := Lib.hid (Pg.pageNew_ok (x.B : Int) (by omega) (by omega) w4)
  go_wp2_with fail
  refine HP.out.mono ?_
  rintro e w5 ⟨p, b, m, rfl, r5, b5, l1, l2, l3⟩
  rw [Int.toNat_natCast] at r5
  have H5 := HZ.out.1.below b5
  have k53 := H5.cl.k3
  obtain ⟨w6, hr6, m6, b6⟩ := H5.map.put (n := (k : Int)) HO1.out ⟨by omega, by omega⟩ few (p, b, m) (List.replicate x.B (-1))
  have HR6 := Lib.hid hr6
  have sz4 := HZ.out.2.size
  have fr : ∀ i, w4.heap.size ≤ i → lab i = none := fun i hi => by
    cases hq : lab i with
    | none => rfl
    | some z => have := HF.out i (by rw [hq]; simp); omega
  obtain ⟨H6, B6⟩ := H5.put (p, b, m) (by omega) r5 (fr _ l1) (fr _ l2) (fr _ l3) HO1.out m6 b6
  have HB6 := Lib.hid (HZ.out.2.trans ((Below.but b5 _).trans B6))
  have AG : Hid (∀ i, i < w.heap.size → (fun i => if i = p ∨ i = b ∨ i = m then some (k : Int) else lab i) i = lab i) := Lib.hid fun i hi => if_neg (by omega)
  have k64 := H6.cl.k4
  have H6' := Lib.hid H6
  clear H6 H5 B6 b6 m6 hr6 r5 b5 l1 l2 l3 fr sz4 k42
  go_wp2_with (at_mapUpdate; refine Pg.wpList_mapUpdate_run rfl _ _ _ _ rfl rfl rfl rfl HR6.out ?_)
  have H7 := Lib.hid (Rop.push H6'.out.ring hk HO2.out)
  go_wp2_with fail
  refine H7.out.mono ?_
  rintro e w7 ⟨rfl, r7, b7⟩
  obtain ⟨H8, B8⟩ := H6'.out.turn r7 b7
  have H8' := Lib.hid H8
  have B8' : Hid (But (fun i => lab i ≠ none) w w7) := Lib.hid (HB6.out.then B8 fun i hi q => by rw [AG.out i hi] at q; exact q)
  clear H8 B8 r7 b7
  go_wp2
  go_ret
  exact ⟨rfl, _, _, H8'.out, AG.out, B8'.out⟩
end
end Go.Proofs.Ytijkigibcpgciaa.Sh
