import Derived.Test.YtijkigibcpgciaaZSh
/-
  Package shelf: Open, Used, Pages, find, Owner, Own; and of a shelf that is nil.
-/
namespace Go.Proofs.Ytijkigibcpgciaa.Sh
open Go.ChangeShapes Go.WideShapes Go.ChangeAt Go.RowKit
set_option maxRecDepth 100000

section
variable {w : World} {x : Fx} {A : Adr} {lab : Lab} {O fl op : List Int} {ps : Ps} {u : Int}
theorem open_any (h : Sr w x A lab O fl ps op u) : Calls Try.prog 19 #[.pointer (some ⟨x.s, 0, none⟩)] w (R1 (op.length : Int) w) := by
  have k4 := h.cl.k4
  have H := Lib.hid (Rn.rgLen h.ring 0)
  rw [Rop.lens] at H
  generalize (op.length : Int) = z at H ⊢
  clear h
  go_enter Try.func19, Try.ntmps19
  go_wp2_with fail
  refine H.out.mono ?_
  rintro e w' ⟨rfl, rfl⟩
  go_wp2
  go_ret
  exact ⟨rfl, rfl⟩
theorem used_any (h : Sr w x A lab O fl ps op u) : Calls Try.prog 20 #[.pointer (some ⟨x.s, 0, none⟩)] w (R1 u w) := by
  have k5 := h.cl.k5
  clear h
  go_enter Try.func20, Try.ntmps20
  go_wp2
  go_ret
  exact ⟨rfl, rfl⟩
theorem pages_any (h : Sr w x A lab O fl ps op u) : Calls Try.prog 21 #[.pointer (some ⟨x.s, 0, none⟩)] w (R1 (ps.length : Int) w) := by
  have k3 := h.cl.k3
  obtain ⟨D, ho, hk⟩ := h.map
  have HO := Lib.hid ho
  have hs := hk.size
  clear h ho hk

  go_enter Try.func21, Try.ntmps21
  go_wp2_with (at_len; refine wpList_len_own _ rfl _ 72 rfl 3 66 Try.underlying72 _ x.mm _ D rfl HO.out ?_)
  go_ret
  exact ⟨rfl, rfl⟩
theorem find_any (h : Sr w x A lab O fl ps op u) {n : Int} (hn : Pl.Fit n) : Calls Try.prog 48 #[.pointer (some ⟨x.s, 0, none⟩), .int .i64 n] w fun e w' => e = .returned (.pointer (ptr ps A n)) ∧ w = w' := by
  have k3 := h.cl.k3
  have hl := h.map.look hn
  generalize ptr ps A n = z at hl ⊢
  clear h hn
  go_enter Try.func48, Try.ntmps48
  go_wp2
  go_ret
  exact ⟨rfl, rfl⟩
theorem ptr_none {n : Int} (h : getP ps n = none) : ptr ps A n = none := if_neg (get_none.1 h)
theorem ptr_at {n : Int} {X : List Int} (h : (n, X) ∈ ps) : ptr ps A n = some ⟨(A n).1, 0, none⟩ := if_pos (mem_nums h)
theorem owner_any (h : Sr w x A lab O fl ps op u) {n : Int} (hn : Pl.Fit n) {k : Int} (hk : Pl.Fit k) : Calls Try.prog 24 #[.pointer (some ⟨x.s, 0, none⟩), .int .i64 n, .int .i64 k] w (R1 (ownerS ⟨O, fl, ps, op⟩ n k) w) := by
  have H := Lib.hid (find_any h hn)
  unfold ownerS
  cases hg : getP ps n with
  | none =>
    rw [ptr_none hg] at H
    have H2 := Lib.hid (Pg.owner_nil k w)
    clear h hn hk hg
    go_enter Try.func24, Try.ntmps24
    go_wp2_with fail
    refine H.out.mono ?_
    rintro e w' ⟨rfl, rfl⟩
    go_wp2_with fail
    refine H2.out.mono ?_
    rintro e w' ⟨rfl, rfl⟩
    go_wp2
    go_ret
    exact ⟨rfl, rfl⟩
  | some X =>
    rw [ptr_at (get_mem hg)] at H
    have H2 := Lib.hid (Pg.owner_any (h.pgs n X (get_mem hg)) k hk)
    show Calls _ _ _ _ (R1 (Pg.ownerOf X k) w)
    generalize Pg.ownerOf X k = z at H2 ⊢
    generalize (A n).1 = a at H H2
    clear h hn hk hg
    go_enter Try.func24, Try.ntmps24
    go_wp2_with fail
    refine H.out.mono ?_
    rintro e w' ⟨rfl, rfl⟩
    go_wp2_with fail
    refine H2.out.mono ?_
    rintro e w' ⟨rfl, rfl⟩
    go_wp2
    go_ret
    exact ⟨rfl, rfl⟩
end
/-- How a call ends that answers v and leaves the shelf s. -/
def ShEnds (v : Value) (x : Fx) (lab : Lab) (s : Shl) (w : World) (e : Ending) (w' : World) : Prop := e = .returned v ∧ Nxt x lab s w w'
section
variable {w : World} {x : Fx} {A : Adr} {lab : Lab} {s : Shl}
theorem own_any (h : Sm w x A lab s) {n : Int} (hn : Pl.Fit n) (k o : Int) (ho : o ≤ 9223372036854775807) :
    Calls Try.prog 28 #[.pointer (some ⟨x.s, 0, none⟩), .int .i64 n, .int .i64 k, .int .i64 o] w (ShEnds (.int .i64 (ownOut s n k o).2) x lab (ownOut s n k o).1 w) := by
  have H := Lib.hid (find_any h.sr hn)
  unfold ownOut
  cases hg : getP s.ps n with
  | none =>
    rw [ptr_none hg] at H
    have H2 := Lib.hid (Pg.pageOwn_nil k o w)
    have HS := Lib.hid (h.same (Below.refl _ _))
    clear h hn hg
    go_enter Try.func28, Try.ntmps28
    go_wp2_with fail
    refine H.out.mono ?_
    rintro e w' ⟨rfl, rfl⟩
    go_wp2_with fail
    refine H2.out.mono ?_
    rintro e w' ⟨rfl, rfl⟩
    go_wp2
    go_ret
    exact ⟨rfl, HS.out⟩
  | some X =>
    have hX := get_mem hg
    rw [ptr_at hX] at H
    have hg' := h.sr.pgs n X hX
    have H2 := Lib.hid (Pg.pageOwn_any hg' k o ho)
    have HS : Hid (∀ w', Pg.Pm w' (A n).1 (A n).2.1 (A n).2.2 (Pg.ownX X k o) → But (fun i => i = (A n).2.1 ∨ i = (A n).2.2) w w' → Nxt x lab ⟨s.O, s.fl, setP s.ps n (Pg.ownX X k o), s.op⟩ w w') := Lib.hid fun w' hp hb => by
      obtain ⟨r1, r2⟩ := h.sr.page hX hp hb
      have hu : Pg.usedN (Pg.ownX X k o) = Pg.usedN X ∧ (Pg.holeOf (Pg.ownX X k o) = -1 ↔ Pg.holeOf X = -1) := own_keeps X k o
      have hs := used_set (Y := Pg.ownX X k o) h.sw.nod hX
      have hw : Sw x.K x.c x.B ⟨s.O, s.fl, setP s.ps n (Pg.ownX X k o), s.op⟩ := h.sw.turn hX (by rw [Pg.own_len]; exact h.sw.len _ _ hX) ((h.sw.pn _ _ hX).own k ho) h.sw.opn fun m => by
        by_cases e : m = n
        · subst e
          have : m ∈ s.op ↔ Pg.holeOf X ≠ -1 := by
            rw [h.sw.opm m]
            constructor
            · rintro ⟨Z, hZ, hh⟩
              rw [same_page h.sw.nod hX hZ]; exact hh
            · intro hh
              exact ⟨X, hX, hh⟩
          rw [this]
          have h2 := hu.2
          constructor
          · intro q; exact Or.inl ⟨rfl, fun z => q (h2.1 z)⟩
          · rintro (⟨_, q⟩ | ⟨q, _⟩)
            · exact fun z => q (h2.2 z)
            · exact absurd rfl q
        · constructor
          · intro q; exact Or.inr ⟨e, q⟩
          · rintro (⟨q, _⟩ | ⟨_, q⟩)
            · exact absurd q e
            · exact q
      refine ⟨A, lab, ⟨?_, hw, fun m Z hm => ?_⟩, fun _ _ => rfl, r2⟩
      · have e : usedS (setP s.ps n (Pg.ownX X k o)) = usedS s.ps := by omega
        show Sr w' x A lab s.O s.fl (setP s.ps n (Pg.ownX X k o)) s.op (usedS (setP s.ps n (Pg.ownX X k o)) : Int)
        rw [e]
        exact r1
      · rcases mem_set.1 hm with ⟨_, rfl, _⟩ | ⟨_, q⟩
        · rw [hu.1]; exact h.uw n X hX
        · exact h.uw _ _ q
    show Calls _ _ _ _ (ShEnds (.int .i64 (Pg.ownE X k o)) x lab ⟨s.O, s.fl, setP s.ps n (Pg.ownX X k o), s.op⟩ w)
    generalize Pg.ownE X k o = z at H2 ⊢
    generalize A n = a at *
    clear h hn hg hg' hX ho
    go_enter Try.func28, Try.ntmps28
    go_wp2_with fail
    refine H.out.mono ?_
    rintro e w' ⟨rfl, rfl⟩
    go_wp2_with fail
    refine H2.out.mono ?_
    rintro e w' ⟨rfl, hp, hb⟩
    have HN := Lib.hid (HS.out w' hp hb)
    clear hp hb
    go_wp2
    go_ret
    exact ⟨rfl, HN.out⟩
end

/-! ### Of a shelf that is nil -/
theorem open_nil (w : World) : Calls Try.prog 19 #[.pointer none] w (R1 0 w) := by
  go_enter Try.func19, Try.ntmps19
  go_wp2
  go_ret
  exact ⟨rfl, rfl⟩
theorem used_nil (w : World) : Calls Try.prog 20 #[.pointer none] w (R1 0 w) := by
  go_enter Try.func20, Try.ntmps20
  go_wp2
  go_ret
  exact ⟨rfl, rfl⟩
theorem pages_nil (w : World) : Calls Try.prog 21 #[.pointer none] w (R1 0 w) := by
  go_enter Try.func21, Try.ntmps21
  go_wp2
  go_ret
  exact ⟨rfl, rfl⟩
theorem find_nil (n : Int) (w : World) : Calls Try.prog 48 #[.pointer none, .int .i64 n] w fun e w' => e = .returned (.pointer none) ∧ w = w' := by
  go_enter Try.func48, Try.ntmps48
  go_wp2
  go_ret
  exact ⟨rfl, rfl⟩
theorem owner_nil (n k : Int) (w : World) : Calls Try.prog 24 #[.pointer none, .int .i64 n, .int .i64 k] w (R1 (-1) w) := by
  have H := Lib.hid (find_nil n w)
  have H2 := Lib.hid (Pg.owner_nil k w)
  go_enter Try.func24, Try.ntmps24
  go_wp2_with fail
  refine H.out.mono ?_
  rintro e w' ⟨rfl, rfl⟩
  go_wp2_with fail
  refine H2.out.mono ?_
  rintro e w' ⟨rfl, rfl⟩
  go_wp2
  go_ret
  exact ⟨rfl, rfl⟩
theorem own_nil (n k o : Int) (w : World) : Calls Try.prog 28 #[.pointer none, .int .i64 n, .int .i64 k, .int .i64 o] w (R1 1 w) := by
  have H := Lib.hid (find_nil n w)
  have H2 := Lib.hid (Pg.pageOwn_nil k o w)
  go_enter Try.func28, Try.ntmps28
  go_wp2_with fail
  refine H.out.mono ?_
  rintro e w' ⟨rfl, rfl⟩
  go_wp2_with fail
  refine H2.out.mono ?_
  rintro e w' ⟨rfl, rfl⟩
  go_wp2
  go_ret
  exact ⟨rfl, rfl⟩
theorem take_nil (o : Int) (w : World) : Calls Try.prog 17 #[.pointer none, .int .i64 o] w fun e w' => e = .returned (.tuple #[.int .i64 0, .int .i64 0, .int .i64 1]) ∧ w = w' := by
  go_enter Try.func17, Try.ntmps17
  go_wp2
  go_ret3
  exact ⟨rfl, rfl⟩
end Go.Proofs.Ytijkigibcpgciaa.Sh
