/-
  Package arena: an arena whose bytes are all laid by one Write, and all told by one Read: what three laws of stage 6 begin and end with.
-/
import Derived.Test.YtadljlkflmodiaaArenaUse
namespace Go.Proofs.Ytadljlkflmodiaa
open Go.ChangeShapes Go.WideShapes Go.ChangeAt Go.RowKit

/-- Whom nobody is charged, the count may be called anything. -/
theorem Ar.free {w : World} {p b : Nat} {xs : List Int} {t l : Int} (h : Ar w p b none xs t l) (t' l' : Int) : Ar w p b none xs t' l' := ⟨h.bytes, h.charge, h.row, Mo.nobody _ _ _, h.pb, h.mp, h.mb⟩
theorem write_whole {w : World} {p q B n c : Nat} {m : Option Nat} {a : Option Addr} {xs ys : List Int} {t l : Int} (h : Ar w p q m xs t l) (hl : xs.length = n) (hy : Bytes w B a n ys) (hB : B ≤ w.heap.size) (hm : ∀ g, m = some g → B ≤ g) :
    Calls Try.prog 12 #[.pointer (some ⟨p, 0, none⟩), .int .i64 0, .slice a n c] w fun e w' => e = .returned (.int .i64 0) ∧ Ar w' p q m ys (more t n) l ∧ But (Mine q m) w w' := by
  refine (write_ok h 0 a n c B ys (fun w' hb => hy.but hb hB (fun i hi e => by have := hm i e; omega)) (by omega)).mono ?_
  rintro e w' ⟨rfl, h2, hb⟩
  rw [splice_whole (by rw [hy.len, hl])] at h2
  exact ⟨rfl, h2, hb⟩
theorem read_whole {w : World} {p q n : Nat} {m : Option Nat} {ys : List Int} {t l : Int} (h : Ar w p q m ys t l) (hl : ys.length = n) :
    Calls Try.prog 21 #[.pointer (some ⟨p, 0, none⟩), .int .i64 0, .int .i64 (n : Int)] w fun e w' => ∃ g, e = .returned (.tuple #[.slice (some ⟨g, 0, none⟩) n n, .int .i64 0]) ∧ Row w' g ys ∧ Ar w' p q m ys (more t n) l ∧ But (Mine q m) w w' ∧ w.heap.size ≤ g := by
  refine (read_ok h 0 n (by omega)).mono ?_
  rintro e w' ⟨g, rfl, hr, h2, hb, hg⟩
  have hs : sub ys 0 n = ys := by have := sub_all ys; rwa [hl] at this
  rw [hs] at hr
  exact ⟨g, rfl, hr, h2, hb, hg⟩
/-- All bytes of a row, as a slice. -/
theorem Row.all {w : World} {g n : Nat} {xs : List Int} (h : Row w g xs) (hl : xs.length = n) : Bytes w w.heap.size (some ⟨g, 0, none⟩) n xs := by
  have := h.bytes (at_ := 0) (o := 0) (k := n) (by omega) (fun _ => rfl)
  have hs : sub xs 0 n = xs := by have := sub_all xs; rwa [hl] at this
  rwa [hs] at this
end Go.Proofs.Ytadljlkflmodiaa
