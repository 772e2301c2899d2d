/-
  The document's own Put of package op (almeryref19.Put), met by a contract: the plain 'putOut'.
-/
import Derived.Test.YtjnnblcafocdoaaDoorOpRefOne
namespace Go.Proofs.YtjnnblcafocdoaaDoor
open Go.ChangeShapes Go.WideShapes Go.ChangeAt Go.RowKit

/-- It returns bytes, and a number of what is wrong; all memory that was there is as it was. -/
def PutEnd (l : List Opn) (w : World) (e : Ending) (w' : World) : Prop := ∃ a n c, e = .returned (.tuple #[.slice a n c, .int .i64 (putOut l).2]) ∧ n ≤ c ∧ Bytes w' w'.heap.size a n (putOut l).1 ∧ Below w.heap.size w w'
theorem putOut_bad {l : List Opn} {k : Nat} {o : Opn} (h : l[k]? = some o) (hm : mayO o = false) : putOut l = ([], 2) := by
  unfold putOut
  rw [if_neg]
  intro e
  rw [List.all_eq_true] at e
  rw [e o (List.mem_of_getElem? h)] at hm
  cases hm
theorem putOut_ok {l : List Opn} (h : l.all mayO = true) : putOut l = (putL l, 0) := if_pos h
theorem putL_byt2 {l : List Opn} (hf : ∀ o ∈ l, o.Fit) (h : l.all mayO = true) : Byt (putL l) := putL_byt (AllO.of hf h)
theorem all_take {l : List Opn} {k : Nat} {o : Opn} (h : (l.take k).all mayO = true) (hk : l[k]? = some o) (hm : mayO o = true) : (l.take (k + 1)).all mayO = true := by
  rw [List.take_add_one, hk, List.all_append, h]
  simp [hm]
theorem putL_take {l : List Opn} {k : Nat} {o : Opn} (hk : l[k]? = some o) : putL (l.take (k + 1)) = putL (l.take k) ++ oneL o := by
  rw [List.take_add_one, hk, putL_app]
  simp [putL]

set_option maxHeartbeats 1000000 in
theorem refPut19_any (a : Option Addr) (n c : Nat) (us : List Ov) (w : World) (h : Ops w w.heap.size a n us) (hn : n ≤ 1000) :
    Calls Tryd.prog 11 #[.slice a n c] w (PutEnd (us.map Ov.op) w) := by
  have hfit := Lib.hid h.fit
  have hlen : (us.map Ov.op).length = n := by rw [List.length_map]; exact h.len
  have HL := Lib.hid hlen
  have hnm : n ≤ 9223372036854775807 := by omega
  clear hlen
  go_enter Tryd.func11, Tryd.ntmps11
  go_wp2
  go_loopw [4, 5] (fun v i wr => ∃ k m : Nat, k ≤ n ∧ i = .int .i64 k ∧ OwnB wr w.heap.size v m (putL ((us.map Ov.op).take k)) ∧ m ≤ 65562 * k ∧ ((us.map Ov.op).take k).all mayO = true ∧ Below w.heap.size w wr) (fun _ i _ => n - (intOf i).toNat)
  case atStart => exact ⟨0, 0, by omega, rfl, OwnB.nil _ _, by omega, rfl, Below.refl _ _⟩
  case round =>
    obtain ⟨k, m, hk, rfl, ho, hm, hall, hb⟩ := hrel
    by_cases hlt : k < n
    · have hw := h.on hb
      obtain ⟨u, hu, hok⟩ := hw.at_ hlt
      obtain ⟨b, o, rfl, hbB, x0, x1, x2, x3, x4⟩ := hw.at5 hu
      have hop : (us.map Ov.op)[k]? = some u.op := by rw [List.getElem?_map, hu]; rfl
      have HM := Lib.hid (refMay19_any u wr hok.bytes.len)
      cases hmay : mayO u.op with
      | false =>
        rw [hmay] at HM
        have HP := Lib.hid (putOut_bad hop hmay)
        clear hw hu hok hop hmay ho hall
        go_wp2_with fail
        refine HM.out.mono ?_
        rintro e w1 ⟨rfl, f1⟩
        have b1 := hb.trans (f1.mono hb.size)
        go_wp2
        refine bodyPost_ret (v := .tuple #[.slice none 0 0, .int .i64 2]) (by simp [results, Tryd.results11, go_sem]) rfl ?_
        refine ⟨none, 0, 0, by rw [HP.out], by omega, by rw [HP.out]; exact Bytes.zero _ _ _, b1⟩
      | true =>
        rw [hmay] at HM
        have hle : u.bn ≤ 65535 := by have := (mayO_true.1 hmay).2.2.1; rw [hok.len] at this; exact this
        have HO := Lib.hid (fun v (hv : Below wr.heap.size wr v) => refOne_any u v ((hok.below hv).more hv.size) hle)
        have HN := Lib.hid (all_take hall hop hmay)
        have HT := Lib.hid (putL_take hop)
        have HU := Lib.hid hok.len
        clear hw hu hok hop hmay hall
        go_wp2_with fail
        refine HM.out.mono ?_
        rintro e w1 ⟨rfl, f1⟩
        have y0 := (f1.cell (p := ⟨b, o + k * 5, none⟩) hbB).trans x0
        have y1 := (f1.cell (p := ⟨b, o + k * 5 + 1, none⟩) hbB).trans x1
        have y2 := (f1.cell (p := ⟨b, o + k * 5 + 2, none⟩) hbB).trans x2
        have y3 := (f1.cell (p := ⟨b, o + k * 5 + 3, none⟩) hbB).trans x3
        have y4 := (f1.cell (p := ⟨b, o + k * 5 + 4, none⟩) hbB).trans x4
        clear x0 x1 x2 x3 x4 HM
        go_wp2_with fail
        refine (HO.out _ f1).mono ?_
        rintro e w2 ⟨a2, n2, c2, rfl, hc2, hx2, f2⟩
        have hl2 : n2 = 27 + u.bn := by have := hx2.len; rw [oneL_len, HU.out] at this; omega
        have b1 := hb.trans (f1.mono hb.size)
        have b2 := b1.trans (f2.mono b1.size)
        obtain ⟨v', w3, r3, o3, b3, _⟩ := app_bytes (c := c2) ((ho.on f1).on f2) hx2 b2.size (by omega) 25
        have R3 := Lib.hid r3
        have B3 := Lib.hid (b2.trans b3)
        have O3 := Lib.hid o3
        have hmm : m + n2 ≤ 65562 * (k + 1) := by omega
        have HMM := Lib.hid hmm
        clear hl2 hmm r3 o3 b3 b2 b1 f1 f2 hx2 ho hb y0 y1 y2 y3 y4 HO
        go_wp2_with (refine wpList_append_run rfl (.tmp 18) (.tmp 23) rfl rfl rfl rfl R3.out ?_)
        exact ⟨⟨k + 1, m + n2, by omega, by simp, by rw [HT.out]; exact O3.out, HMM.out, HN.out, B3.out⟩, by simp [intOf]; omega⟩
    · obtain rfl : k = n := by omega
      have ht : (us.map Ov.op).take k = us.map Ov.op := List.take_of_length_le (by rw [HL.out]; omega)
      rw [ht] at ho hall
      obtain ⟨a', c', rfl, hc, hx⟩ := ho.bytes (putL_byt2 hfit.out hall) (by omega)
      have HP := Lib.hid (putOut_ok hall)
      clear ho hall ht
      go_wp2
      refine bodyPost_ret (v := .tuple #[.slice a' m c', .int .i64 0]) (by simp [results, Tryd.results11, go_sem]) rfl ?_
      exact ⟨a', m, c', by rw [HP.out], hc, by rw [HP.out]; exact hx, hb⟩
end Go.Proofs.YtjnnblcafocdoaaDoor
