/- Contracts of octavoref01.Lent and Kept: the same bytes with a mark behind them; that all stays. Conditions: the slice reads as the list that is named and has at most 2^47 - 3 bytes. -/
import Derived.Test.YtoihkanneiknkaaSame
import Derived.Test.YtoihkanneiknkaaCopy
import Derived.Test.YtoihkanneiknkaaFresh
namespace Go.Proofs.Ytoihkanneiknkaa
open Go.RowKit

/-- What Lent gives: the bytes, and behind them, within the capacity, the mark of three bytes. -/
def LentAt (w : World) (base : Nat) (v : Value) (l : List UInt8) : Prop :=
  ∃ g cap cur, v = .slice (some ⟨g, 0, none⟩) l.length cap ∧ base ≤ g ∧ w.heap[g]? = some (.cells cur 5 (0, 0)) ∧ l.length + 3 ≤ cap ∧ cap ≤ maxLen ∧ cur.size = cap ∧ cur.toList.take (l.length + 3) = bv (l ++ [165, 90, 165])

set_option maxHeartbeats 400000 in
theorem lent_any (l : List UInt8) (A : Option Addr) (B c : Nat) (w : World) (hl : l.length ≤ 140737488355325) (h : Reads w B 1 A l.length (bv l)) :
    Calls Try.prog 28 #[.slice A l.length c] w fun e w' => ∃ v, e = .returned v ∧ LentAt w' w.heap.size v l ∧ Below w.heap.size w w' := by
  obtain ⟨i0, hi0, hz0, hz1, hz2⟩ := info_parts u8info
  go_enter Try.func28, Try.ntmps28
  go_wp2_with fail
  refine (copy_any l A B c _ (by omega) h).mono ?_
  rintro e w1 ⟨v1, rfl, hown1, hb1⟩
  have hbs := hb1.size
  go_wp2_with (at_builtin; refine wpList_append_own _ rfl (.tmp 5) (.tmp 6) 41 rfl w.heap.size 5 i0 (.int .u8 0) 1 1 Try.underlying41 hi0 hz0 hz1 hz2 rfl (by decide) v1 l.length (bv l) rfl (hown1.alloc _) ⟨w1.heap.size, 0, none⟩ 3 3 (bv [165, 90, 165]) rfl rfl ?c1 ?c2 ?c3 ?c4 ?c5 ?_)
  case c1 => exact cells_new w1 5 (bv [165, 90, 165])
  case c2 => exact bv_one _
  case c3 => unfold maxLen; omega
  case c4 => omega
  case c5 => simp; omega
  intro v2 w2 hown2 hg2 _
  have hb2 := (hb1.alloc hbs (.cells #[.int .u8 165, .int .u8 90, .int .u8 165] 5)).grown hg2 (by simp; omega) (own_ge hown1)
  rcases hown2.2 with ⟨_, h0⟩ | ⟨g, cap, cur, rfl, hbg, hheap, hnc, hcm, hcs, htk⟩
  · omega
  · have HB := Lib.hid hb2
    clear hb2
    have HH := Lib.hid hheap
    have HT := Lib.hid htk
    have HS := Lib.hid hcs
    clear hheap htk hcs
    unfold maxLen at hcm
    go_wp2
    go_ret
    exact ⟨.slice (some ⟨g, 0, none⟩) l.length cap, rfl, ⟨g, cap, cur, rfl, hbg, HH.out, hnc, by unfold maxLen; exact hcm, by rw [HS.out, Nat.mul_one], by rw [← Nat.mul_one (l.length + 3), HT.out, bv_append]⟩, HB.out⟩

theorem LentAt.cells {w : World} {base : Nat} {v : Value} {l : List UInt8} (h : LentAt w base v l) :
    ∃ g cap, v = .slice (some ⟨g, 0, none⟩) l.length cap ∧ base ≤ g ∧ g < w.heap.size ∧ l.length + 3 ≤ cap ∧ cap ≤ maxLen ∧ ∀ j u, (bv (l ++ [165, 90, 165]))[j]? = some u → w.cell? ⟨g, j, none⟩ = some u := by
  obtain ⟨g, cap, cur, rfl, hb, hh, hc, hm, hcs, ht⟩ := h
  have hblk : Blk w g 5 cur := hh
  refine ⟨g, cap, rfl, hb, hblk.lt, hc, hm, fun j u hu => ?_⟩
  rw [hblk.cell j]
  rw [← ht, List.getElem?_take] at hu
  by_cases hj : j < l.length + 3
  · rw [if_pos hj] at hu
    simpa using hu
  · rw [if_neg hj] at hu
    cases hu
theorem LentAt.below {w w' : World} {base : Nat} {v : Value} {l : List UInt8} (h : LentAt w base v l) (hb : Below w.heap.size w w') : LentAt w' base v l := by
  obtain ⟨g, cap, cur, rfl, h1, hh, h2⟩ := h
  have hblk : Blk w g 5 cur := hh
  exact ⟨g, cap, cur, rfl, h1, hblk.below hb hblk.lt, h2⟩
theorem LentAt.reads {w : World} {base : Nat} {v : Value} {l : List UInt8} (h : LentAt w base v l) : ∃ g cap, v = .slice (some ⟨g, 0, none⟩) l.length cap ∧ Reads w w.heap.size 1 (some ⟨g, 0, none⟩) l.length (bv l) := by
  obtain ⟨g, cap, rfl, hb, hg, hc, hm, hcell⟩ := h.cells
  refine ⟨g, cap, rfl, by simp [bv], fun _ => ⟨_, rfl, hg, fun j u hu => ?_⟩⟩
  have ha : (⟨g, 0, none⟩ : Addr).add j = ⟨g, j, none⟩ := by
    unfold Addr.add
    by_cases hj : j = 0
    · subst hj; rfl
    · simp [hj]
  rw [ha]
  apply hcell
  rw [bv_append, List.getElem?_append_left, hu]
  exact (List.getElem?_eq_some_iff.1 hu).1

set_option maxHeartbeats 400000 in
theorem kept_any (l : List UInt8) (v : Value) (A : Option Addr) (B c base : Nat) (w : World) (hl : l.length ≤ 140737488355325) (hv : LentAt w base v l) (h : Reads w B 1 A l.length (bv l)) :
    Calls Try.prog 29 #[v, .slice A l.length c] w fun e w' => e = .returned (.bool true) ∧ Below w.heap.size w w' := by
  obtain ⟨g, cap, rfl, hr⟩ := hv.reads
  obtain ⟨_, _, hvv, _, hg, hcap, hcm, hcell⟩ := hv.cells
  obtain ⟨rfl, rfl⟩ : _ = g ∧ _ = cap := by simpa using hvv.symm
  clear hvv
  unfold maxLen at hcm
  have hm1 : l.length ≤ maxLen := by unfold maxLen; omega
  go_enter Try.func29, Try.ntmps29
  go_wp2_with fail
  refine (same_any l l _ _ _ _ _ _ _ hm1 hm1 hr h).mono ?_
  rw [show decide (l = l) = true from by simp]
  rintro e w1 ⟨rfl, hb1⟩
  have c0 := (hb1.cell (p := ⟨_, l.length, none⟩) hg).trans (hcell l.length _ (by rw [bv_get _ _ (by simp)]))
  have c1 := (hb1.cell (p := ⟨_, l.length + 1, none⟩) hg).trans (hcell (l.length + 1) _ (by rw [bv_get _ _ (by simp)]))
  have c2 := (hb1.cell (p := ⟨_, l.length + 2, none⟩) hg).trans (hcell (l.length + 2) _ (by rw [bv_get _ _ (by simp)]))
  simp at c0 c1 c2
  go_wp2
  go_ret
  exact ⟨rfl, hb1⟩
end Go.Proofs.Ytoihkanneiknkaa
