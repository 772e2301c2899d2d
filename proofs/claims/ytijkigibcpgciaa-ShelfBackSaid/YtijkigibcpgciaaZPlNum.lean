import Derived.Test.YtijkigibcpgciaaZGA
import Derived.Lib.Hide
/-
  Pages as plain lists: the owners of all of them, and the free ones in the turn in which they are taken; what Take and Give come to. No statement about a Go function.
-/
namespace Go.Proofs.Ytijkigibcpgciaa.Pl
open Go.ChangeShapes Go.WideShapes Go.ChangeAt Go.RowKit
set_option maxRecDepth 100000

/-- Is a number one of N, from 0 on? -/
def inB (N : Nat) (i : Int) : Bool := decide (0 ≤ i) && decide (i < (N : Int))
theorem inB_nat {N : Nat} {i : Int} (h : inB N i = true) : ∃ k : Nat, i = (k : Int) ∧ k < N := by
  simp [inB] at h
  exact ⟨i.toNat, by omega, by omega⟩
theorem inB_of {N k : Nat} (h : k < N) : inB N (k : Int) = true := by simp [inB]; omega
/-- The first free page; how many pages there are, if none is free. -/
def hd (K : Nat) : List Int → Int
  | [] => (K : Int)
  | x :: _ => x
/-- A whole number of 64 bits. -/
def Fit (x : Int) : Prop := -9223372036854775808 ≤ x ∧ x ≤ 9223372036854775807
/-- K pages, of which O are the owners, and fl the free ones. -/
structure Pw (K : Nat) (O fl : List Int) : Prop where
  len : O.length = K
  fit : ∀ x ∈ O, Fit x
  free : ∀ x ∈ fl, ∃ k : Nat, x = (k : Int) ∧ O[k]? = some (-1)
  once : fl.Nodup
  cnt : fl.length = O.count (-1)
section
variable {K : Nat} {O fl r : List Int} {x : Int}
theorem Pw.few (h : Pw K O fl) : fl.length ≤ K := by rw [h.cnt, ← h.len]; exact List.count_le_length
theorem Pw.lt (h : Pw K O fl) (hx : x ∈ fl) : ∃ k : Nat, x = (k : Int) ∧ k < K := by
  obtain ⟨k, e, hk⟩ := h.free x hx
  exact ⟨k, e, by rw [← h.len]; exact (List.getElem?_eq_some_iff.1 hk).1⟩
theorem Pw.head (h : Pw K O fl) : 0 ≤ hd K fl ∧ hd K fl ≤ (K : Int) := by
  cases fl with
  | nil => simp [hd]
  | cons x r =>
    obtain ⟨k, e, hk⟩ := h.lt (x := x) (by simp)
    simp only [hd]
    omega
theorem Pw.flFit (h : Pw K O fl) (hK : K ≤ 1024) (hx : x ∈ fl) : Fit x := by
  obtain ⟨k, e, hk⟩ := h.lt hx
  unfold Fit
  omega
theorem Pw.take {k : Nat} {o : Int} (h : Pw K O ((k : Int) :: r)) (h0 : 0 ≤ o) (ho : Fit o) : Pw K (O.set k o) r := by
  obtain ⟨k', e, hk⟩ := h.free (k : Int) (by simp)
  have e' : k' = k := by omega
  subst e'
  obtain ⟨hlt, hget⟩ := List.getElem?_eq_some_iff.1 hk
  obtain ⟨hn, hd⟩ := List.nodup_cons.1 h.once
  refine ⟨by rw [List.length_set]; exact h.len, fun y hy => ?_, fun y hy => ?_, hd, ?_⟩
  · rcases List.mem_or_eq_of_mem_set hy with q | q
    · exact h.fit y q
    · rw [q]; exact ho
  · obtain ⟨j, e, hj⟩ := h.free y (by simp [hy])
    refine ⟨j, e, ?_⟩
    rw [List.getElem?_set_ne (fun q => hn (by rw [q, ← e]; exact hy))]
    exact hj
  · have := h.cnt
    rw [List.length_cons] at this
    rw [List.count_set hlt, hget, if_pos (by simp), if_neg (by simp; omega)]
    omega
theorem Pw.give {k : Nat} (h : Pw K O fl) (hk : O[k]? = some x) (hx : x ≠ -1) : Pw K (O.set k (-1)) ((k : Int) :: fl) := by
  obtain ⟨hlt, hget⟩ := List.getElem?_eq_some_iff.1 hk
  refine ⟨by rw [List.length_set]; exact h.len, fun y hy => ?_, fun y hy => ?_, List.nodup_cons.2 ⟨fun q => ?_, h.once⟩, ?_⟩
  · rcases List.mem_or_eq_of_mem_set hy with q | q
    · exact h.fit y q
    · rw [q]; unfold Fit; omega
  · rcases List.mem_cons.1 hy with q | q
    · exact ⟨k, q, by rw [List.getElem?_set_self hlt]⟩
    · obtain ⟨j, e, hj⟩ := h.free y q
      refine ⟨j, e, ?_⟩
      by_cases z : k = j
      · subst z; rw [List.getElem?_set_self hlt]
      · rw [List.getElem?_set_ne z]; exact hj
  · obtain ⟨j, e, hj⟩ := h.free _ q
    have e' : j = k := by omega
    subst e'
    rw [hk] at hj
    exact hx (Option.some.inj hj)
  · have := h.cnt
    rw [List.length_cons, List.count_set hlt, hget, if_neg (by simpa using hx), if_pos (by simp)]
    omega
theorem Pw.ofK (h : Pw K O fl) {k : Nat} (hk : k < K) : ∃ x, O[k]? = some x ∧ Fit x := by
  have hl : k < O.length := by rw [h.len]; exact hk
  exact ⟨O[k], List.getElem?_eq_getElem hl, h.fit _ (List.getElem_mem hl)⟩
end

/-- What Take comes to: owners, free ones, page, error. -/
def takeOut (O fl : List Int) (o : Int) : List Int × List Int × Int × Int :=
  if o < 0 then (O, fl, 0, 1) else match fl with
    | [] => (O, [], 0, 5)
    | x :: r => (O.set x.toNat o, r, x, 0)
/-- What Give comes to: owners, free ones, error. -/
def giveOut (O fl : List Int) (i : Int) : List Int × List Int × Int :=
  if inB O.length i = true then (if O[i.toNat]? = some (-1) then (O, fl, 9) else (O.set i.toNat (-1), i :: fl, 0)) else (O, fl, 1)
/-- What Owner comes to. -/
def ownOut (O : List Int) (i : Int) : Int := if inB O.length i = true then (O[i.toNat]?).getD (-1) else -1
/-- All pages free. -/
def freed (K : Nat) : List Int := List.replicate K (-1)
def turns (K : Nat) : List Int := (List.range K).map Int.ofNat
theorem turns_at {K j : Nat} (hj : j < K) : (turns K)[j]? = some (j : Int) := by
  unfold turns
  rw [List.getElem?_map, List.getElem?_range hj]
  rfl
theorem turns_len (K : Nat) : (turns K).length = K := by simp [turns]
theorem mem_turns {K : Nat} {x : Int} (h : x ∈ turns K) : ∃ k : Nat, x = (k : Int) ∧ k < K := by
  unfold turns at h
  obtain ⟨k, hk, e⟩ := List.mem_map.1 h
  exact ⟨k, e.symm, List.mem_range.1 hk⟩
theorem Pw.new (K : Nat) : Pw K (freed K) (turns K) := by
  refine ⟨by simp [freed], fun x hx => ?_, fun x hx => ?_, ?_, ?_⟩
  · rw [(List.mem_replicate.1 hx).2]; unfold Fit; omega
  · obtain ⟨k, e, hk⟩ := mem_turns hx
    exact ⟨k, e, by unfold freed; rw [List.getElem?_replicate, if_pos hk]⟩
  · unfold turns
    exact List.Pairwise.map _ (fun a b hab q => hab (Int.ofNat.inj q)) (List.nodup_range (n := K))
  · rw [turns_len]; simp [freed]
end Go.Proofs.Ytijkigibcpgciaa.Pl
