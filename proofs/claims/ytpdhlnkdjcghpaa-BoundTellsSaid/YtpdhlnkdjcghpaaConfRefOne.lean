/-
  The document's own answers for package conf but May and Blocks (almeryref03.Large, Small), each met by a contract: the plain answers; all memory that was there is as it was.
-/
import Derived.Test.YtpdhlnkdjcghpaaConfWithin
import Derived.Deep.QuietTactic
import Derived.BigQuiet
namespace Go.Proofs.Ytpdhlnkdjcghpaa
open Go.ChangeShapes Go.WideShapes Go.ChangeAt Go.RowKit

theorem refLarge_any (c : Cf) (w : World) :
    Calls Try.prog 17 #[(.agg #[.int .i64 c.size, .int .i64 c.pages, .slice c.ca c.cn c.cc, .slice c.ka c.kn c.kc, .int .i64 c.step, .int .i64 c.slots, .int .i64 c.gens, .int .i64 c.most])] w (IBox (large c.size) c w) := by
  by_cases h1 : c.size < 64
  · rw [large_off (by simp [sizeB, inB_low h1])]
    go_enter Try.func17, Try.ntmps17
    go_wp2
    go_ret
    exact ⟨rfl, rfl⟩
  · by_cases h2 : 4096 < c.size
    · rw [large_off (by simp [sizeB, inB_high h2])]
      go_enter Try.func17, Try.ntmps17
      go_wp2
      go_ret
      exact ⟨rfl, rfl⟩
    · cases h3 : (c.size % 8 != 0) with
      | true =>
        have hm : ¬ c.size % 8 = 0 := by simpa using h3
        rw [large_off (by simp [sizeB, hm])]
        clear hm
        go_enter Try.func17, Try.ntmps17
        go_wp2
        go_ret
        exact ⟨rfl, rfl⟩
      | false =>
        have hm : c.size % 8 = 0 := by simpa using h3
        rw [large_words (sizeB_true.2 ⟨by omega, by omega, hm⟩)]
        clear hm
        obtain ⟨q1, q2⟩ := words_bounds (s := c.size) (by omega) (by omega)
        go_enter Try.func17, Try.ntmps17
        go_wp2
        go_ret
        exact ⟨rfl, rfl⟩

theorem refSmall_any (c : Cf) (w : World) (hc : c.Ok w w.heap.size) :
    Calls Try.prog 30 #[(.agg #[.int .i64 c.size, .int .i64 c.pages, .slice c.ca c.cn c.cc, .slice c.ka c.kn c.kc, .int .i64 c.step, .int .i64 c.slots, .int .i64 c.gens, .int .i64 c.most])] w (IB (small c) w) := by
  have hlen := hc.classes.len
  have hmax := hc.classes.max
  have HI := hc.classes.alloc (Nat.le_refl _) (.cells #[.int .i64 c.size, .int .i64 c.pages, .slice c.ca c.cn c.cc, .slice c.ka c.kn c.kc, .int .i64 c.step, .int .i64 c.slots, .int .i64 c.gens, .int .i64 c.most] 24)
  unfold small
  by_cases h0 : c.cn = 0
  · rw [sizeAt_neg (by omega)]
    have hz : ((c.cn : Int) == 0) = true := by simp [h0]
    clear hlen h0
    go_enter Try.func30, Try.ntmps30
    go_wp2
    go_ret
    exact ⟨rfl, below1 _ _⟩
  · have hz : ((c.cn : Int) == 0) = false := by simp; omega
    obtain ⟨k, hk⟩ : ∃ k, c.cn = k + 1 := ⟨c.cn - 1, by omega⟩
    obtain ⟨s, hs, s1, s2⟩ := HI.at_ (k := k) (by omega)
    obtain ⟨b, o, ha, hb, hcell0⟩ := HI.head (by omega)
    have hcell := hcell0 k s hs
    rw [show ((c.xs.length : Int) - 1) = (k : Int) by omega, sizeAt_at hs]
    clear hlen hs hcell0 h0 HI
    rw [hk] at hz hmax
    have HS : Calls Try.prog 30 #[.agg #[.int .i64 c.size, .int .i64 c.pages, .slice (some ⟨b, o, none⟩) (k + 1) c.cc, .slice c.ka c.kn c.kc, .int .i64 c.step, .int .i64 c.slots, .int .i64 c.gens, .int .i64 c.most]] w (IB s w) := by
      rw [ha, hk] at hcell
      clear ha hk hb hc
      go_enter Try.func30, Try.ntmps30
      go_wp2
      go_ret
      exact ⟨rfl, below1 _ _⟩
    rw [ha, hk]
    exact HS
end Go.Proofs.Ytpdhlnkdjcghpaa
