/-
  Slots as plain lists: their generations, whether each is live, and the free ones in the turn in which they are taken; what Take, Look and Give come to. No statement about a Go function.
-/
import Derived.Test.YtelhhhmmkdbagaaDoorIdent
import Derived.Test.YtelhhhmmkdbagaaDoorBut
namespace Go.Proofs.YtelhhhmmkdbagaaDoor
open Go.ChangeShapes Go.WideShapes Go.ChangeAt Go.RowKit

structure Tb where
  G : List Int
  L : List Bool
  fl : List Int
/-- The first free slot; how many slots there are, if none is free. -/
def hd (K : Nat) : List Int → Int
  | [] => (K : Int)
  | x :: _ => x
/-- K slots, of M generations each. -/
structure Tw (K : Nat) (M : Int) (T : Tb) : Prop where
  lg : T.G.length = K
  ll : T.L.length = K
  gen : ∀ (k : Nat) (g : Int), T.G[k]? = some g → 1 ≤ g ∧ g ≤ M + 1
  free : ∀ x ∈ T.fl, ∃ k : Nat, x = (k : Int) ∧ T.L[k]? = some false ∧ ∃ g, T.G[k]? = some g ∧ g ≤ M
  live : ∀ (k : Nat) (g : Int), T.L[k]? = some true → T.G[k]? = some g → g ≤ M
  once : T.fl.Nodup
  sum : T.fl.length + T.L.count true ≤ K
/-- What a slot is: free, live, or spent. -/
def kindOf (M g : Int) (b : Bool) : Int := if b = true then 1 else if g ≤ M then 0 else 2
section
variable {K : Nat} {M : Int} {T : Tb} {r : List Int} {x : Int}
theorem Tw.ofK (h : Tw K M T) {k : Nat} (hk : k < K) : ∃ g b, T.G[k]? = some g ∧ T.L[k]? = some b := by
  have h1 : k < T.G.length := by rw [h.lg]; exact hk
  have h2 : k < T.L.length := by rw [h.ll]; exact hk
  exact ⟨T.G[k], T.L[k], List.getElem?_eq_getElem h1, List.getElem?_eq_getElem h2⟩
theorem Tw.lt (h : Tw K M T) (hx : x ∈ T.fl) : ∃ k : Nat, x = (k : Int) ∧ k < K := by
  obtain ⟨k, e, hk, _⟩ := h.free x hx
  exact ⟨k, e, by rw [← h.ll]; exact (List.getElem?_eq_some_iff.1 hk).1⟩
theorem hd_in (hl : ∀ x ∈ r, ∃ k : Nat, x = (k : Int) ∧ k < K) : 0 ≤ hd K r ∧ hd K r ≤ (K : Int) := by
  cases r with
  | nil => simp [hd]
  | cons x r =>
    obtain ⟨k, e, hk⟩ := hl x (by simp)
    simp only [hd]
    omega
theorem Tw.head (h : Tw K M T) : 0 ≤ hd K T.fl ∧ hd K T.fl ≤ (K : Int) := hd_in fun _ hx => h.lt hx
theorem count_on {L : List Bool} {k : Nat} (hk : L[k]? = some false) : (L.set k true).count true = L.count true + 1 := by
  obtain ⟨hlt, hget⟩ := List.getElem?_eq_some_iff.1 hk
  rw [List.count_set hlt, hget]
  simp
theorem count_off {L : List Bool} {k : Nat} (hk : L[k]? = some true) : (L.set k false).count true + 1 = L.count true := by
  obtain ⟨hlt, hget⟩ := List.getElem?_eq_some_iff.1 hk
  have hp : 0 < L.count true := List.count_pos_iff.2 (by rw [← hget]; exact List.getElem_mem hlt)
  rw [List.count_set hlt, hget]
  simp
  omega
theorem set_get {α : Type} {l : List α} {k j : Nat} {v y : α} (h : (l.set k v)[j]? = some y) : (k = j ∧ y = v) ∨ (k ≠ j ∧ l[j]? = some y) := by
  by_cases z : k = j
  · subst z
    have hlt : k < l.length := by have := (List.getElem?_eq_some_iff.1 h).1; simpa using this
    rw [List.getElem?_set_self hlt] at h
    exact Or.inl ⟨rfl, (Option.some.inj h).symm⟩
  · rw [List.getElem?_set_ne z] at h
    exact Or.inr ⟨z, h⟩
theorem get_set {α : Type} {l : List α} {k : Nat} (v : α) {y : α} (h : l[k]? = some y) : (l.set k v)[k]? = some v := by
  rw [List.getElem?_set_self (List.getElem?_eq_some_iff.1 h).1]
theorem Tw.took {k : Nat} {G : List Int} {L : List Bool} (h : Tw K M ⟨G, L, (k : Int) :: r⟩) : Tw K M ⟨G, L.set k true, r⟩ := by
  obtain ⟨k', e, hk, g, hg, hgM⟩ := h.free (k : Int) (by simp)
  obtain rfl : k' = k := by omega
  obtain ⟨hn, hd⟩ := List.nodup_cons.1 h.once
  refine ⟨h.lg, by simpa using h.ll, h.gen, fun y hy => ?_, fun j g' hj hg' => ?_, hd, ?_⟩
  · obtain ⟨j, ej, hj, hx⟩ := h.free y (by simp [hy])
    refine ⟨j, ej, ?_, hx⟩
    show (L.set k' true)[j]? = _
    rw [List.getElem?_set_ne (fun q => hn (by rw [q, ← ej]; exact hy))]
    exact hj
  · rcases set_get hj with ⟨rfl, _⟩ | ⟨_, hj⟩
    · have : g' = g := Option.some.inj (hg'.symm.trans hg)
      omega
    · exact h.live j g' hj hg'
  · have hs : (r.length + 1) + L.count true ≤ K := h.sum
    show r.length + (L.set k' true).count true ≤ K
    rw [count_on (L := L) hk]
    omega
theorem Tw.gave {k : Nat} {g : Int} {G : List Int} {L : List Bool} {fl : List Int} (h : Tw K M ⟨G, L, fl⟩) (hL : L[k]? = some true) (hG : G[k]? = some g) :
    Tw K M ⟨G.set k (g + 1), L.set k false, if g + 1 ≤ M then (k : Int) :: fl else fl⟩ := by
  have h1 := h.gen k g hG
  have h2 := h.live k g hL hG
  have hfl : ∀ y ∈ fl, ∃ j : Nat, y = (j : Int) ∧ j ≠ k ∧ L[j]? = some false ∧ ∃ g', G[j]? = some g' ∧ g' ≤ M := fun y hy => by
    obtain ⟨j, ej, hj, hx⟩ := h.free y hy
    exact ⟨j, ej, (fun q => by subst q; exact absurd (hL.symm.trans hj) (by simp)), hj, hx⟩
  have hno : (k : Int) ∉ fl := fun q => by
    obtain ⟨j, ej, hne, _⟩ := hfl _ q
    omega
  have hc := count_off hL
  have hs : fl.length + L.count true ≤ K := h.sum
  refine ⟨by simpa using h.lg, by simpa using h.ll, fun j g' hj => ?_, fun y hy => ?_, fun j g' hj hg' => ?_, ?_, ?_⟩
  · rcases set_get hj with ⟨_, rfl⟩ | ⟨_, hj⟩
    · omega
    · exact h.gen j g' hj
  · have hy' : (g + 1 ≤ M ∧ y = (k : Int)) ∨ y ∈ fl := by
      simp only at hy
      split at hy
      · rename_i q
        rcases List.mem_cons.1 hy with e | e
        · exact Or.inl ⟨q, e⟩
        · exact Or.inr e
      · exact Or.inr hy
    rcases hy' with ⟨q, e⟩ | hy
    · exact ⟨k, e, get_set false hL, g + 1, get_set (g + 1) hG, q⟩
    · obtain ⟨j, ej, hne, hj, g', hg', hm⟩ := hfl y hy
      exact ⟨j, ej, by show (L.set k false)[j]? = _; rw [List.getElem?_set_ne (fun q => hne q.symm)]; exact hj, g', by show (G.set k (g + 1))[j]? = _; rw [List.getElem?_set_ne (fun q => hne q.symm)]; exact hg', hm⟩
  · rcases set_get hj with ⟨_, q⟩ | ⟨hne, hj⟩
    · cases q
    · rcases set_get hg' with ⟨e, _⟩ | ⟨_, hg'⟩
      · exact absurd e hne
      · exact h.live j g' hj hg'
  · show (if g + 1 ≤ M then (k : Int) :: fl else fl).Nodup
    split
    · exact List.nodup_cons.2 ⟨hno, h.once⟩
    · exact h.once
  · show (if g + 1 ≤ M then (k : Int) :: fl else fl).length + (L.set k false).count true ≤ K
    split
    · rw [List.length_cons]; omega
    · omega
end

/-- What Take comes to: the table, handle, slot, error. -/
def takeOut (T : Tb) : Tb × Int × Int × Int :=
  match T.fl with
  | [] => (T, 0, 0, 4)
  | x :: r => (⟨T.G, T.L.set x.toNat true, r⟩, 4096 * (T.G[x.toNat]?).getD 0 + x, x, 0)
/-- What Look comes to: slot, error. -/
def lookOut (T : Tb) (h : Int) : Int × Int :=
  if handB h = true then
    match T.G[(h % 4096).toNat]? with
    | none => (0, 7)
    | some g => if h / 4096 < g then (0, 6) else if g < h / 4096 then (0, 7) else if T.L[(h % 4096).toNat]? = some true then (h % 4096, 0) else (0, 7)
  else (0, 7)
/-- What Give comes to: the table, error. -/
def giveOut (M : Int) (T : Tb) (h : Int) : Tb × Int :=
  if (lookOut T h).2 = 0 then
    (⟨T.G.set (h % 4096).toNat ((T.G[(h % 4096).toNat]?).getD 0 + 1), T.L.set (h % 4096).toNat false, if (T.G[(h % 4096).toNat]?).getD 0 + 1 ≤ M then h % 4096 :: T.fl else T.fl⟩, 0)
  else (T, (lookOut T h).2)
section
variable {K : Nat} {M : Int} {T : Tb} {h g : Int} {k : Nat}
theorem take_none_eq (e : T.fl = []) : takeOut T = (T, 0, 0, 4) := by unfold takeOut; rw [e]
theorem take_ok_eq {G : List Int} {L : List Bool} {r : List Int} (hg : G[k]? = some g) : takeOut ⟨G, L, (k : Int) :: r⟩ = (⟨G, L.set k true, r⟩, 4096 * g + (k : Int), (k : Int), 0) := by
  simp [takeOut, hg]
/-- The four ways of Look. -/
theorem look_bad (q : handB h = false) : lookOut T h = (0, 7) := by unfold lookOut; rw [q]; rfl
theorem look_far (q : handB h = true) (e : h % 4096 = (k : Int)) (hk : T.G[k]? = none) : lookOut T h = (0, 7) := by
  unfold lookOut; rw [q, e, Int.toNat_natCast, hk]; rfl
theorem look_old (q : handB h = true) (e : h % 4096 = (k : Int)) (hk : T.G[k]? = some g) (hg : h / 4096 < g) : lookOut T h = (0, 6) := by
  unfold lookOut; rw [q, e, Int.toNat_natCast, hk]; simp [hg]
theorem look_new (q : handB h = true) (e : h % 4096 = (k : Int)) (hk : T.G[k]? = some g) (hg : g < h / 4096) : lookOut T h = (0, 7) := by
  unfold lookOut; rw [q, e, Int.toNat_natCast, hk]; simp [hg]; omega
theorem look_off (q : handB h = true) (e : h % 4096 = (k : Int)) (hk : T.G[k]? = some g) (hg : h / 4096 = g) (hl : T.L[k]? = some false) : lookOut T h = (0, 7) := by
  unfold lookOut; rw [q, e, Int.toNat_natCast, hk, hl, hg]; simp
theorem look_on (q : handB h = true) (e : h % 4096 = (k : Int)) (hk : T.G[k]? = some g) (hg : h / 4096 = g) (hl : T.L[k]? = some true) : lookOut T h = ((k : Int), 0) := by
  unfold lookOut; rw [q, e, Int.toNat_natCast, hk, hl, hg]; simp
/-- Where Look comes to no error. -/
theorem look_ok (w : Tw K M T) (h0 : (lookOut T h).2 = 0) : ∃ (k : Nat) (g : Int), k < K ∧ h = 4096 * g + (k : Int) ∧ h % 4096 = (k : Int) ∧ h / 4096 = g ∧ 1 ≤ g ∧ g ≤ 1023 ∧ T.G[k]? = some g ∧ T.L[k]? = some true ∧ lookOut T h = ((k : Int), 0) := by
  cases q : handB h with
  | false => rw [look_bad q] at h0; cases h0
  | true =>
    obtain ⟨r1, r2⟩ := handB_in q
    obtain ⟨k, e⟩ : ∃ k : Nat, h % 4096 = (k : Int) := ⟨(h % 4096).toNat, by omega⟩
    by_cases hk : k < K
    · obtain ⟨g, b, hg, hb⟩ := w.ofK hk
      by_cases c1 : h / 4096 < g
      · rw [look_old q e hg c1] at h0; cases h0
      by_cases c2 : g < h / 4096
      · rw [look_new q e hg c2] at h0; cases h0
      have c3 : h / 4096 = g := by omega
      cases b with
      | false => rw [look_off q e hg c3 hb] at h0; cases h0
      | true => exact ⟨k, g, hk, by omega, e, c3, by omega, by omega, hg, hb, look_on q e hg c3 hb⟩
    · rw [look_far q e (List.getElem?_eq_none (by rw [w.lg]; omega))] at h0
      cases h0
theorem give_ok_eq (hl : lookOut T h = ((k : Int), 0)) (e : h % 4096 = (k : Int)) (hg : T.G[k]? = some g) : giveOut M T h = (⟨T.G.set k (g + 1), T.L.set k false, if g + 1 ≤ M then (k : Int) :: T.fl else T.fl⟩, 0) := by
  unfold giveOut
  rw [hl, e, Int.toNat_natCast, hg]
  simp
theorem give_bad_eq (h0 : (lookOut T h).2 ≠ 0) : giveOut M T h = (T, (lookOut T h).2) := by unfold giveOut; rw [if_neg h0]
theorem look_bad0 (h0 : (lookOut T h).2 ≠ 0) : (lookOut T h).1 = 0 := by
  unfold lookOut at h0 ⊢
  split
  · split
    · rfl
    · split
      · rfl
      · split
        · rfl
        · split
          · rename_i c1 _ _ c2 c3 c4 c5
            simp [c1, c2, c3, c4, c5] at h0
          · rfl
  · rfl
end
/-- All slots free. -/
def turns (K : Nat) : List Int := (List.range K).map Int.ofNat
def fresh (K : Nat) : Tb := ⟨List.replicate K 1, List.replicate K false, turns K⟩
theorem turns_at {K j : Nat} (hj : j < K) : (turns K)[j]? = some (j : Int) := by
  unfold turns
  rw [List.getElem?_map, List.getElem?_range hj]
  rfl
theorem turns_len (K : Nat) : (turns K).length = K := by simp [turns]
theorem mem_turns {K : Nat} {x : Int} (h : x ∈ turns K) : ∃ k : Nat, x = (k : Int) ∧ k < K := by
  unfold turns at h
  obtain ⟨k, hk, e⟩ := List.mem_map.1 h
  exact ⟨k, e.symm, List.mem_range.1 hk⟩
theorem rep_at {α : Type} {K k : Nat} {x y : α} (h : (List.replicate K x)[k]? = some y) : k < K ∧ y = x := by
  rw [List.getElem?_replicate] at h
  split at h
  · exact ⟨by assumption, (Option.some.inj h).symm⟩
  · cases h
theorem at_rep {α : Type} {K k : Nat} (x : α) (h : k < K) : (List.replicate K x)[k]? = some x := by rw [List.getElem?_replicate, if_pos h]
theorem Tw.new (K : Nat) {M : Int} (hM : 1 ≤ M) : Tw K M (fresh K) := by
  refine ⟨by simp [fresh], by simp [fresh], fun k g hk => ?_, fun x hx => ?_, fun k g hk _ => ?_, ?_, ?_⟩
  · have := (rep_at hk).2; omega
  · obtain ⟨k, e, hk⟩ := mem_turns hx
    exact ⟨k, e, at_rep false hk, 1, at_rep 1 hk, hM⟩
  · have := (rep_at hk).2; cases this
  · show (turns K).Nodup
    unfold turns
    exact List.Pairwise.map _ (fun a b hab q => hab (Int.ofNat.inj q)) (List.nodup_range (n := K))
  · show (turns K).length + (List.replicate K false).count true ≤ K
    rw [turns_len, List.count_replicate]
    simp
end Go.Proofs.YtelhhhmmkdbagaaDoor
