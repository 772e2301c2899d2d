/-
  The document's own bytes of an operation (almeryref19.one), met by a contract: the plain 'oneL'.
-/
import Derived.Test.YtjnnblcafocdoaaDoorOpRef
import Derived.Laws.OwnMore
namespace Go.Proofs.YtjnnblcafocdoaaDoor
open Go.ChangeShapes Go.WideShapes Go.ChangeAt Go.RowKit

theorem oneL_byt' {o : Opn} (h : Byt o.bs) (hm : o.bs.length ≤ 65535) : Byt (oneL o) := by
  intro x hx
  simp only [oneL, List.mem_cons, List.mem_append] at hx
  rcases hx with rfl | m | m | m | rfl | rfl | m
  · omega
  · exact bytesOf_byt 8 _ x m
  · exact bytesOf_byt 8 _ x m
  · exact bytesOf_byt 8 _ x m
  · omega
  · omega
  · exact h x m
theorem own_lit (w : World) (base : Nat) (xs : List Int) (cs : Array Value) (n : Nat) (g : Nat) (hg : w.heap.size = g) (hcs : cs.toList = cellsB xs) (hn : xs.length = n) (hb : base ≤ w.heap.size) (hm : n ≤ 1000) : OwnB (w.alloc (.cells cs 5)) base (.slice (some ⟨g, 0, none⟩) n n) n xs := by
  subst hg
  have hsz : cs.size = n * 1 := by rw [← Array.length_toList, hcs, cellsB, List.length_map]; omega
  have := World.ownsRow_lit (base := base) (e := 5) (size := 1) w cs n hb (by unfold maxLen; omega) hsz
  unfold OwnB
  rw [← hcs]
  exact this
set_option maxHeartbeats 2000000 in
theorem refOne_any (u : Ov) (w : World) (hu : u.ok w w.heap.size) (hm : u.bn ≤ 65535) :
    Calls Tryd.prog 18 #[.agg #[.int .i64 u.kind, .int .i64 u.h, .int .i64 u.a, .int .i64 u.b, .slice u.ba u.bn u.bc]] w (BsEnd (oneL u.op) w) := by
  obtain ⟨W, hW⟩ : ∃ W, W = w.alloc (.cells #[.int .i64 u.kind, .int .i64 u.h, .int .i64 u.a, .int .i64 u.b, .slice u.ba u.bn u.bc] 40) := ⟨_, rfl⟩
  have bW : Below w.heap.size w W := by rw [hW]; exact below1 _ _
  have X0 : Cs W w.heap.size u.cells := by rw [hW]; exact Cs.new _ _ _ rfl
  have Y0 : Bytes W W.heap.size u.ba u.bn u.bs := hu.bytes.on bW
  have hlen : u.bs.length = u.bn := hu.bytes.len
  have hk : IntKind.u8.wrap u.kind = u.kind % 256 := IntKind.wrap_u8 _
  have hfit := hu.fit
  have hk1 : IntKind.u8.wrap ((u.bn : Int) % 256) = (u.bn : Int) % 256 := by rw [IntKind.wrap_u8]; omega
  have hk2 : IntKind.u8.wrap ((u.bn : Int) / 256) = (u.bn : Int) / 256 := by rw [IntKind.wrap_u8]; omega
  have hx1 : (u.bn : Int).tmod 256 = (u.bn : Int) % 256 := Int.tmod_eq_emod_of_nonneg (by omega)
  have hx2 : (u.bn : Int).tdiv 256 = (u.bn : Int) / 256 := Int.tdiv_eq_ediv_of_nonneg (by omega)
  have HY := Lib.hid hfit.bs
  clear hfit hu
  go_enter Tryd.func18, Tryd.ntmps18
  have XA := X0.below (below1 W (.cells #[.int .u8 (u.kind % 256)] 5))
  have sW : W.heap.size = w.heap.size + 1 := by rw [hW]; simp
  have O0 := own_lit W W.heap.size [u.kind % 256] #[.int .u8 (u.kind % 256)] 1 (w.heap.size + 1) sW rfl rfl (Nat.le_refl _) (by omega)
  have B0 := below1 W (.cells #[.int .u8 (u.kind % 256)] 5)
  have y0 := X0.cell 0 _ rfl
  have yy := XA.cell 1 _ rfl
  rw [hW] at y0 yy
  go_wp2_with fail
  rw [← hW]
  clear hW y0 yy XA
  generalize W.alloc (.cells #[.int .u8 (u.kind % 256)] 5) = W1 at *
  refine (refNum_any u.h W1).mono ?_
  rintro e n1 ⟨a1, l1, c1, rfl, hc1, hn1, f1⟩
  have hl1 : l1 = 8 := by have := hn1.len; rw [numL_len] at this; omega
  subst hl1
  have B1a := B0.trans (f1.mono B0.size)
  obtain ⟨v1, w1, r1, o1, b1, _⟩ := app_bytes (c := c1) (O0.on f1) hn1 B1a.size (by omega) 25
  have R1 := Lib.hid r1
  have B1 := B1a.trans b1
  clear r1 b1 f1 hn1 O0 B0 B1a
  have y1 := (X0.below B1).cell 2 _ rfl
  go_wp2_with (refine wpList_append_run rfl _ _ rfl rfl rfl rfl R1.out ?_)
  clear y1 R1
  refine (refNum_any u.a w1).mono ?_
  rintro e n2 ⟨a2, l2, c2, rfl, hc2, hn2, f2⟩
  have hl2 : l2 = 8 := by have := hn2.len; rw [numL_len] at this; omega
  subst hl2
  have B2a := B1.trans (f2.mono B1.size)
  obtain ⟨v2, w2, r2, o2, b2, _⟩ := app_bytes (c := c2) (o1.on f2) hn2 B2a.size (by omega) 25
  have R2 := Lib.hid r2
  have B2 := B2a.trans b2
  clear r2 b2 f2 hn2 o1 B1 B2a
  have y2 := (X0.below B2).cell 3 _ rfl
  go_wp2_with (refine wpList_append_run rfl _ _ rfl rfl rfl rfl R2.out ?_)
  clear y2 R2
  refine (refNum_any u.b w2).mono ?_
  rintro e n3 ⟨a3, l3, c3, rfl, hc3, hn3, f3⟩
  have hl3 : l3 = 8 := by have := hn3.len; rw [numL_len] at this; omega
  subst hl3
  have B3a := B2.trans (f3.mono B2.size)
  obtain ⟨v3, w3, r3, o3, b3, _⟩ := app_bytes (c := c3) (o2.on f3) hn3 B3a.size (by omega) 25
  have R3 := Lib.hid r3
  have B3 := B3a.trans b3
  clear r3 b3 f3 hn3 o2 B2 B3a
  have y3 := (X0.below B3).cell 4 _ rfl
  have TB := two_bytes w3 ((u.bn : Int) % 256) ((u.bn : Int) / 256) (by omega) (by omega)
  have B4 := B3.alloc B3.size (.cells #[.int .u8 ((u.bn : Int) % 256), .int .u8 ((u.bn : Int) / 256)] 5)
  obtain ⟨v4, w4, r4, o4, b4, _⟩ := app_bytes (c := 2) (o3.on (below1 w3 _)) TB B4.size (by omega) 25
  have R4 := Lib.hid r4
  have B5 := B4.trans b4
  have Y5 := Y0.on B5
  obtain ⟨v5, w5, r5, o5, b5, _⟩ := app_bytes (c := u.bc) o4 Y5 B5.size (by omega) 25
  have R5 := Lib.hid r5
  have B6 := B5.trans b5
  have y5 := (X0.below B5).cell 4 _ rfl
  clear r4 r5 b4 b5 TB B4 o3 o4 Y0 Y5 X0 B3
  go_wp2_with (first | refine wpList_append_run rfl _ _ rfl rfl rfl rfl R3.out ?_ | refine wpList_append_run rfl _ _ rfl rfl rfl rfl R4.out ?_ | refine wpList_append_run rfl _ _ rfl rfl rfl rfl R5.out ?_)
  clear R3 R4 R5 y5 hk hk1 hk2 hx1 hx2
  have e5 : ((((([u.kind % 256] ++ numL u.h) ++ numL u.a) ++ numL u.b) ++ [(u.bn : Int) % 256, (u.bn : Int) / 256]) ++ u.bs) = oneL u.op := by simp [oneL, Ov.op, hlen]
  rw [e5] at o5
  obtain ⟨a, c, rfl, hc, hx⟩ := o5.bytes (oneL_byt' HY.out (by show u.bs.length ≤ 65535; omega)) (by omega)
  go_ret
  exact ⟨a, _, c, rfl, hc, hx, bW.trans (B6.mono bW.size)⟩
end Go.Proofs.YtjnnblcafocdoaaDoor
