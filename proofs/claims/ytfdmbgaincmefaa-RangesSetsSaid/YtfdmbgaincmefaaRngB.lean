/- Contracts of octavoref03.Lent and Kept: the same ranges with a mark behind them; that all stays. Conditions: the slice reads as the list that is named and has at most 2^40 ranges. -/
import Derived.Test.YtfdmbgaincmefaaRngA
import Derived.Test.YtfdmbgaincmefaaFresh
import Derived.Deep.LoopGhost
import Derived.Laws.MakeOwn
namespace Go.Proofs.Ytfdmbgaincmefaa
open Go.RowKit

theorem rginfo : (Try.prog.info? 30).map (fun i => (i.zero, i.size, i.bytes)) = some (some (.agg #[.int .i64 0, .int .i64 0]), 2, 16) := by kernel_rfl
theorem rgv_take (l : List Rg) (k : Nat) (h : k < l.length) : rgv (l.take (k + 1)) = rgv (l.take k) ++ [.int .i64 l[k].1, .int .i64 l[k].2] := by
  rw [List.take_succ_eq_append_getElem h, rgv_append]
  rfl

/-- What Lent gives: the ranges, and behind them, within the capacity, the mark. -/
def LentR (w : World) (base : Nat) (v : Value) (l : List Rg) : Prop :=
  ∃ g cap cur, v = .slice (some ⟨g, 0, none⟩) l.length cap ∧ base ≤ g ∧ w.heap[g]? = some (.cells cur 30 (0, 0)) ∧ l.length + 2 ≤ cap ∧ cap ≤ maxLen ∧ cur.size = cap * 2 ∧ cur.toList.take ((l.length + 2) * 2) = rgv (l ++ [(77, 78), (79, 80)])

set_option maxHeartbeats 800000 in
theorem refLent_any (l : List Rg) (A : Option Addr) (B c : Nat) (w : World) (hl : l.length ≤ 1099511627776) (h : Reads w B 2 A l.length (rgv l)) :
    Calls Try.prog 13 #[.slice A l.length c] w fun e w' => ∃ v, e = .returned v ∧ LentR w' w.heap.size v l ∧ Below w.heap.size w w' := by
  obtain ⟨i0, hi0, hz0, hz1, hz2⟩ := info_parts rginfo
  go_enter Try.func13, Try.ntmps13
  go_wp2
  go_loopw [3, 4] (fun v i wr => ∃ k : Nat, k ≤ l.length ∧ i = .int .i64 k ∧ wr.ownsRow w.heap.size 30 2 v k (rgv (l.take k)) ∧ Below w.heap.size w wr) (fun _ i _ => l.length - (intOf i).toNat)
  case atStart => exact ⟨0, Nat.zero_le _, rfl, own_nil _ _ _ _, Below.refl _ _⟩
  case round =>
    obtain ⟨k, hk, rfl, hown, hbel⟩ := hrel
    by_cases hlt : k < l.length
    · obtain ⟨b, off, rfl, hbB, hc⟩ := (h.here2.below hbel).rg (by omega)
      obtain ⟨x1, x2⟩ := hc k hlt
      have hi : (k : Int) < (l.length : Int) := by omega
      have hbs := hbel.size
      have HN := Lib.hid (rgv_take l k hlt)
      clear hc
      generalize l[k].1 = x at *
      generalize l[k].2 = y at *
      go_wp2_with (at_builtin; refine wpList_append_own _ rfl _ _ 22 rfl w.heap.size 30 i0 (.agg #[.int .i64 0, .int .i64 0]) 2 16 Try.underlying22 hi0 hz0 hz1 hz2 rfl (by decide) _ _ _ rfl (hown.alloc _) ⟨wr.heap.size, 0, none⟩ 1 1 [.int .i64 x, .int .i64 y] rfl rfl ?c1 ?c2 ?c3 ?c4 ?c5 ?_)
      case c1 => exact cells_new wr 30 [.int .i64 x, .int .i64 y]
      case c2 => intro u hu; simp at hu; rcases hu with rfl | rfl <;> rfl
      case c3 => unfold maxLen; omega
      case c4 => omega
      case c5 => simp; omega
      intro v' w1 hown' hgrow _
      go_wp2
      go_roundw
      case rel =>
        refine ⟨k + 1, by omega, by go_num, ?_, (hbel.alloc (by omega) _).grown hgrow (by simp; omega) (own_ge hown)⟩
        rw [HN.out]
        exact hown'
      case measure => simp [intOf]; omega
    · obtain rfl : k = l.length := by omega
      rw [List.take_length] at hown
      have hbs := hbel.size
      clear hlt
      go_wp2_with (at_builtin; refine wpList_append_own _ rfl (.tmp 18) (.tmp 21) 22 rfl w.heap.size 30 i0 (.agg #[.int .i64 0, .int .i64 0]) 2 16 Try.underlying22 hi0 hz0 hz1 hz2 rfl (by decide) u3 l.length (rgv l) rfl (hown.alloc _) ⟨wr.heap.size, 0, none⟩ 2 2 (rgv [(77, 78), (79, 80)]) rfl rfl ?c1 ?c2 ?c3 ?c4 ?c5 ?_)
      case c1 => exact cells_new wr 30 (rgv [(77, 78), (79, 80)])
      case c2 => exact rgv_one _
      case c3 => unfold maxLen; omega
      case c4 => omega
      case c5 => simp; omega
      intro v2 w2 hown2 hg2 _
      have hb2 := (hbel.alloc hbs (.cells #[.int .i64 77, .int .i64 78, .int .i64 79, .int .i64 80] 30)).grown hg2 (by simp; omega) (own_ge hown)
      rcases hown2.2 with ⟨_, h0⟩ | ⟨g, cap, cur, rfl, hbg, hheap, hnc, hcm, hcs, htk⟩
      · omega
      · have HB := Lib.hid hb2
        clear hb2
        have HH := Lib.hid hheap
        have HT := Lib.hid htk
        have HS := Lib.hid hcs
        clear hheap htk hcs
        unfold maxLen at hcm
        go_wp2
        go_ret
        exact ⟨.slice (some ⟨g, 0, none⟩) l.length cap, rfl, ⟨g, cap, cur, rfl, hbg, HH.out, hnc, by unfold maxLen; exact hcm, HS.out, by rw [HT.out, rgv_append]⟩, HB.out⟩

theorem LentR.cells {w : World} {base : Nat} {v : Value} {l : List Rg} (h : LentR w base v l) :
    ∃ g cap, v = .slice (some ⟨g, 0, none⟩) l.length cap ∧ base ≤ g ∧ g < w.heap.size ∧ l.length + 2 ≤ cap ∧ cap ≤ maxLen ∧ ∀ j u, (rgv (l ++ [(77, 78), (79, 80)]))[j]? = some u → w.cell? ⟨g, j, none⟩ = some u := by
  obtain ⟨g, cap, cur, rfl, hb, hh, hc, hm, hcs, ht⟩ := h
  have hblk : Blk w g 30 cur := hh
  refine ⟨g, cap, rfl, hb, hblk.lt, hc, hm, fun j u hu => ?_⟩
  rw [hblk.cell j]
  rw [← ht, List.getElem?_take] at hu
  by_cases hj : j < (l.length + 2) * 2
  · rw [if_pos hj] at hu
    simpa using hu
  · rw [if_neg hj] at hu
    cases hu
theorem LentR.below {w w' : World} {base : Nat} {v : Value} {l : List Rg} (h : LentR w base v l) (hb : Below w.heap.size w w') : LentR w' base v l := by
  obtain ⟨g, cap, cur, rfl, h1, hh, h2⟩ := h
  have hblk : Blk w g 30 cur := hh
  exact ⟨g, cap, cur, rfl, h1, hblk.below hb hblk.lt, h2⟩
theorem LentR.reads {w : World} {base : Nat} {v : Value} {l : List Rg} (h : LentR w base v l) : ∃ g cap, v = .slice (some ⟨g, 0, none⟩) l.length cap ∧ l.length ≤ cap ∧ Reads w w.heap.size 2 (some ⟨g, 0, none⟩) l.length (rgv l) := by
  obtain ⟨g, cap, rfl, hb, hg, hc, hm, hcell⟩ := h.cells
  refine ⟨g, cap, rfl, by omega, rgv_length l, fun _ => ⟨_, rfl, hg, fun j u hu => ?_⟩⟩
  have ha : (⟨g, 0, none⟩ : Addr).add j = ⟨g, j, none⟩ := by
    unfold Addr.add
    by_cases hj : j = 0
    · subst hj; rfl
    · simp [hj]
  rw [ha]
  apply hcell
  rw [rgv_append, List.getElem?_append_left, hu]
  exact (List.getElem?_eq_some_iff.1 hu).1

set_option maxHeartbeats 800000 in
theorem refKept_any (l : List Rg) (v : Value) (A : Option Addr) (B c base : Nat) (w : World) (hl : l.length ≤ 1099511627776) (hv : LentR w base v l) (h : Reads w B 2 A l.length (rgv l)) :
    Calls Try.prog 19 #[v, .slice A l.length c] w fun e w' => e = .returned (.bool true) ∧ Below w.heap.size w w' := by
  obtain ⟨g, cap, rfl, _, hr⟩ := hv.reads
  obtain ⟨_, _, hvv, _, hg, hcap, hcm, hcell⟩ := hv.cells
  obtain ⟨rfl, rfl⟩ : _ = g ∧ _ = cap := by simpa using hvv.symm
  clear hvv
  unfold maxLen at hcm
  go_enter Try.func19, Try.ntmps19
  go_wp2_with fail
  refine (refSame_any l l _ _ _ _ _ _ _ (by omega) (by omega) hr h).mono ?_
  rw [show decide (l = l) = true from by simp]
  rintro e w1 ⟨rfl, hb1⟩
  have key : ∀ k (hk : k < (l ++ [((77 : Int), (78 : Int)), (79, 80)]).length), w1.cell? ⟨_, k * 2, none⟩ = some (.int .i64 (l ++ [(77, 78), (79, 80)])[k].1) ∧ w1.cell? ⟨_, k * 2 + 1, none⟩ = some (.int .i64 (l ++ [(77, 78), (79, 80)])[k].2) := fun k hk =>
    ⟨(hb1.cell (p := ⟨_, k * 2, none⟩) hg).trans (hcell (k * 2) _ (by rw [Nat.mul_comm]; exact rgv_from _ k hk)), (hb1.cell (p := ⟨_, k * 2 + 1, none⟩) hg).trans (hcell (k * 2 + 1) _ (by rw [Nat.mul_comm]; exact rgv_to _ k hk))⟩
  obtain ⟨c0, c1⟩ := key l.length (by simp)
  obtain ⟨c2, c3⟩ := key (l.length + 1) (by simp)
  simp at c0 c1 c2 c3
  clear key hcell hr hv
  go_wp2
  go_ret
  exact ⟨rfl, hb1⟩
end Go.Proofs.Ytfdmbgaincmefaa
