/-
  Put of package op, met by a contract: the plain 'putOut'.
-/
import Derived.Test.YtjnnblcafocdoaaDoorOpHelp
import Derived.Test.YtjnnblcafocdoaaDoorOpWide
import Derived.Test.YtjnnblcafocdoaaDoorOpRefPut
import Derived.WalkMore
import Derived.Deep.LoopGhost
namespace Go.Proofs.YtjnnblcafocdoaaDoor
open Go.ChangeShapes Go.WideShapes Go.ChangeAt Go.RowKit

set_option maxRecDepth 20000 in
set_option maxHeartbeats 2000000 in
theorem put19_any (a : Option Addr) (n c : Nat) (us : List Ov) (w : World) (hW : Wd w) (h : Ops w w.heap.size a n us) (hn : n ≤ 1000) :
    Calls Tryd.prog 10 #[.slice a n c] w (PutEnd (us.map Ov.op) w) := by
  have hfit := Lib.hid h.fit
  have hlen : (us.map Ov.op).length = n := by rw [List.length_map]; exact h.len
  have HL := Lib.hid hlen
  have HW := Lib.hid hW
  have hpos := hW.pos
  have hnm : n ≤ 9223372036854775807 := by omega
  clear hlen hW
  go_enter Tryd.func10, Tryd.ntmps10
  go_wp2
  go_loopg [4, 12] n (fun g v i wr => ∃ k m : Nat, k + g = n ∧ i = .int .i64 k ∧ OwnB wr w.heap.size v m (putL ((us.map Ov.op).take k)) ∧ m ≤ 65562 * k ∧ Hid (((us.map Ov.op).take k).all mayO = true) ∧ Below w.heap.size w wr)
  case atStart => exact ⟨0, 0, by omega, rfl, OwnB.nil _ _, by omega, Lib.hid rfl, Below.refl _ _⟩
  case round =>
    obtain ⟨k, m, hk, rfl, ho, hm, hall, hb⟩ := hrel
    cases gk with
    | zero =>
      have dn : decide ((k : Int) < (n : Int)) = false := decide_eq_false (by omega)
      have dn' : decide (k < n) = false := decide_eq_false (by omega)
      obtain rfl : k = n := by omega
      have ht : (us.map Ov.op).take k = us.map Ov.op := List.take_of_length_le (by rw [HL.out]; omega)
      rw [ht] at ho hall
      obtain ⟨a', c', rfl, hc, hx⟩ := ho.bytes (putL_byt2 hfit.out hall.out) (by omega)
      have HP := Lib.hid (putOut_ok hall.out)
      clear ho hall ht
      go_wp2
      refine bodyPost_ret (v := .tuple #[.slice a' m c', .int .i64 0]) (by simp [results, Tryd.results10, go_sem]) rfl ?_
      exact ⟨a', m, c', by rw [HP.out], hc, by rw [HP.out]; exact hx, hb⟩
    | succ g =>
      have hlt : k < n := by omega
      have dn : decide ((k : Int) < (n : Int)) = true := decide_eq_true (by omega)
      have dn' : decide (k < n) = true := decide_eq_true hlt
      have hw := h.below hb
      obtain ⟨u, hu, hok⟩ := hw.at_ hlt
      obtain ⟨b, o, rfl, hbB, x0, x1, x2, x3, x4⟩ := hw.at5 hu
      have hop : (us.map Ov.op)[k]? = some u.op := by rw [List.getElem?_map, hu]; rfl
      have HOK := Lib.hid hok
      have hmn : mayN u.kind ((u.bn : Nat) : Int) = mayO u.op := by rw [← mayN_op u.op, hok.len]; rfl
      have HB := Lib.hid hb
      have HO := Lib.hid ho
      have hle : w.heap.size ≤ wr.heap.size := hb.size
      have CO : Hid (Cs ((wr.alloc (.cells #[.int .i64 u.kind, .int .i64 u.h, .int .i64 u.a, .int .i64 u.b, .slice u.ba u.bn u.bc] 40)).alloc (.cells #[.int .i64 u.kind, .int .i64 u.h, .int .i64 u.a, .int .i64 u.b, .int .i64 (u.bn : Int)] 42)) wr.heap.size u.cells) :=
        Lib.hid ((Cs.new wr _ 40 rfl).below (below1 _ _))
      have CN : Hid (Cs ((wr.alloc (.cells #[.int .i64 u.kind, .int .i64 u.h, .int .i64 u.a, .int .i64 u.b, .slice u.ba u.bn u.bc] 40)).alloc (.cells #[.int .i64 u.kind, .int .i64 u.h, .int .i64 u.a, .int .i64 u.b, .int .i64 (u.bn : Int)] 42)) (wr.heap.size + 1) [.int .i64 u.kind, .int .i64 u.h, .int .i64 u.a, .int .i64 u.b, .int .i64 (u.bn : Int)]) :=
        Lib.hid ((Cs.new (wr.alloc (.cells #[.int .i64 u.kind, .int .i64 u.h, .int .i64 u.a, .int .i64 u.b, .slice u.ba u.bn u.bc] 40)) #[.int .i64 u.kind, .int .i64 u.h, .int .i64 u.a, .int .i64 u.b, .int .i64 (u.bn : Int)] 42 rfl).at_ (by simp))
      have b2 := below2 wr (.cells #[.int .i64 u.kind, .int .i64 u.h, .int .i64 u.a, .int .i64 u.b, .slice u.ba u.bn u.bc] 40) (.cells #[.int .i64 u.kind, .int .i64 u.h, .int .i64 u.a, .int .i64 u.b, .int .i64 (u.bn : Int)] 42)
      have B2 := Lib.hid b2
      clear b2 hb ho
      cases hmay : mayO u.op with
      | false =>
        rw [hmay] at hmn
        have HM := Lib.hid (fun v => hmn ▸ may19_any u.kind u.h u.a u.b (u.bn : Int) v)
        have HP := Lib.hid (putOut_bad hop hmay)
        clear hw hu hok hop hmay hall hmn
        go_wp2_with fail
        refine (HM.out _).mono ?_
        rintro e w1 ⟨rfl, f1⟩
        have b1 := HB.out.trans ((belowT B2.out f1).mono hle)
        go_wp2
        refine bodyPost_ret (v := .tuple #[.slice none 0 0, .int .i64 2]) (by simp [results, Tryd.results10, go_sem]) rfl ?_
        refine ⟨none, 0, 0, by rw [HP.out], by omega, by rw [HP.out]; exact Bytes.zero _ _ _, b1⟩
      | true =>
        rw [hmay] at hmn
        have HM := Lib.hid (fun v => hmn ▸ may19_any u.kind u.h u.a u.b (u.bn : Int) v)
        have hbn : u.bn ≤ 65535 := by have := (mayO_true.1 hmay).2.2.1; rw [hok.len] at this; exact this
        have HN := Lib.hid (all_take hall.out hop hmay)
        have HT := Lib.hid (putL_take hop)
        have HH := Lib.hid (ahead19_all u.op (by rw [hok.len]; exact hbn))
        have HUL := Lib.hid hok.len
        clear hw hu hok hop hmay hall hmn
        go_wp2_with fail
        refine (HM.out _).mono ?_
        rintro e w1 ⟨rfl, f1⟩
        have CO1 := Lib.hid (CO.out.below f1)
        have CN1 := Lib.hid (CN.out.below f1)
        have B1 := Lib.hid (belowT B2.out f1)
        have BW := Lib.hid (HB.out.trans (B1.out.mono hle))
        have HY := Lib.hid (HOK.out.below (B1.out.mono hle)).bytes
        have HO1 := Lib.hid (HO.out.on B1.out)
        have W1 := HW.out.next BW.out
        have v0 := W1.c0
        have v1 := W1.c1
        have v2 := W1.c2
        have v3 := W1.c3
        have v4 := W1.c4
        obtain ⟨va, vc, rfl, hvc, hvo⟩ := HO.out.form
        have N0 : Hid ((Value.slice va m vc).ownBlock ≠ some wr.heap.size) := Lib.hid (by
          rcases hvo with rfl | ⟨z, rfl, _, hz⟩
          · simp [Value.ownBlock]
          · simp [Value.ownBlock]; omega)
        have N1 : Hid ((Value.slice va m vc).ownBlock ≠ some (wr.heap.size + 1)) := Lib.hid (by
          rcases hvo with rfl | ⟨z, rfl, _, hz⟩
          · simp [Value.ownBlock]
          · simp [Value.ownBlock]; omega)
        have hl1 : w.heap.size ≤ w1.heap.size := BW.out.size
        clear CO CN HM f1 W1 hvo hvc HO HOK HB B1 B2 x0 x1 x2 x3 x4
        generalize wr.heap.size = G at *
        generalize putL ((us.map Ov.op).take k) = P at *
        go_wp2
        go_loopg [4, 32] 5 (fun g2 v i wy => ∃ j : Nat, j + g2 = 5 ∧ i = .int .i64 j ∧ Hid (OwnB wy w.heap.size v (m + off19 j) (P ++ ahead19 u.kind u.h u.a u.b (u.bn : Int) j)) ∧ Hid (Grew w1 wy (.slice va m vc) v))
        case atStart => exact ⟨0, by omega, rfl, Lib.hid (by simpa [off19, ahead19] using HO1.out), Lib.hid (Grew.refl _ _)⟩
        case round =>
          obtain ⟨j, hj, rfl, ho, hg⟩ := hrel
          cases gk with
          | zero =>
            obtain rfl : j = 5 := by omega
            have C4 := Lib.hid (hg.out.cs CO1.out N0.out).1
            have y4 := C4.out.cell 4 _ rfl
            have HY4 := hg.out.bytes HY.out hl1 (fun q hq e => by
              obtain ⟨a', c', e', _, hz⟩ := HO1.out.form
              rw [e'] at e
              rcases hz with rfl | ⟨z, rfl, hz, _⟩
              · simp [Value.ownBlock] at e
              · simp [Value.ownBlock] at e; omega)
            have hls : w.heap.size ≤ wr.heap.size := Nat.le_trans hl1 hg.out.size
            obtain ⟨v', w3, r3, o3, g3⟩ := grow_bytes (c := u.bc) ho.out (HY4.more hls) hls (by have := @off_le 5; omega) 25
            have R3 := Lib.hid r3
            have BB3 := Lib.hid (BW.out.trans (HO1.out.below hl1 (hg.out.trans g3)))
            have O3 : Hid (OwnB w3 w.heap.size v' (m + 27 + u.bn) (putL ((us.map Ov.op).take (k + 1)))) := Lib.hid (by
              rw [HT.out, ← HH.out, HUL.out, ← List.append_assoc]
              exact o3)
            have hmm : m + 27 + u.bn ≤ 65562 * (k + 1) := by omega
            have HMM := Lib.hid hmm
            obtain ⟨a4, c4, rfl, _, _⟩ := ho.out.form
            clear HY4 r3 o3 g3 ho hg HH HUL HT HY v0 v1 v2 v3 v4 hmm hls C4
            go_wp2_with (refine wpList_append_run rfl (.tmp 43) (.tmp 45) rfl rfl rfl rfl R3.out ?_)
            go_roundg g
            case measure => omega
            case rel => exact ⟨k + 1, _, by omega, by go_num, O3.out, HMM.out, HN, BB3.out⟩
          | succ g2 =>
            have hj5 : j < 5 := by omega
            have dj : decide ((j : Int) < 5) = true := decide_eq_true (by omega)
            have dj' : decide (j < 5) = true := decide_eq_true hj5
            have hx := wid_at wr hj5
            obtain ⟨C1, N2⟩ := hg.out.cs CN1.out N1.out
            have y := C1.cell j _ (num_at _ _ _ _ _ hj5)
            have hls : w.heap.size ≤ wr.heap.size := Nat.le_trans hl1 hg.out.size
            have HLY := Lib.hid (lay19_any u4 w.heap.size (m + off19 j) (wid j) _ (num19 u.kind u.h u.a u.b (u.bn : Int) j) wr ho.out hls wid_le (by have := @off_le j; omega))
            have HA := Lib.hid (ahead_step u.kind u.h u.a u.b (u.bn : Int) hj5)
            have HS := Lib.hid (off_step hj5)
            obtain ⟨a4, c4, rfl, _, _⟩ := ho.out.form
            clear C1 N2 ho v0 v1 v2 v3 v4
            generalize num19 u.kind u.h u.a u.b (u.bn : Int) j = X at *
            go_wp2_with fail
            refine HLY.out.mono ?_
            rintro e w2 ⟨v', rfl, o2, g2'⟩
            have O2 : Hid (OwnB w2 w.heap.size v' (m + off19 (j + 1)) (P ++ ahead19 u.kind u.h u.a u.b (u.bn : Int) (j + 1))) := Lib.hid (by
              rw [HS.out, HA.out, ← List.append_assoc, ← Nat.add_assoc]
              exact o2)
            have G2 := Lib.hid (hg.out.trans g2')
            clear o2 g2' HLY hg
            go_wp2
            go_roundg g2
            case measure => omega
            case rel => exact ⟨j + 1, by omega, by go_num, O2, G2⟩
end Go.Proofs.YtjnnblcafocdoaaDoor
