/- Contract of ranges.counting: in new memory the ranges that have numbers, without those below 0. Conditions: the slice reads as the list that is named, is short, and its numbers fit. -/
import Derived.Test.YtfdmbgaincmefaaRngG
import Derived.Test.YtfdmbgaincmefaaFresh
import Derived.Deep.LoopGhost
import Derived.Laws.MakeOwn
namespace Go.Proofs.Ytfdmbgaincmefaa
open Go.RowKit

/-- The ranges that have numbers, from 0 on. -/
def cutL (l : List Rg) : List Rg := (l.map fun r => (max r.1 0, r.2)).filter fun r => decide (r.1 < r.2)
theorem cutL_take (l : List Rg) (k : Nat) (h : k < l.length) : cutL (l.take (k + 1)) = if max l[k].1 0 < l[k].2 then cutL (l.take k) ++ [(max l[k].1 0, l[k].2)] else cutL (l.take k) := by
  rw [List.take_succ_eq_append_getElem h, cutL, List.map_append, List.filter_append, cutL]
  by_cases hc : max l[k].1 0 < l[k].2
  · rw [if_pos hc]; simp [hc]
  · rw [if_neg hc]; simp [hc]
theorem cutL_len (l : List Rg) : (cutL l).length ≤ l.length := by
  unfold cutL
  exact Nat.le_trans (List.length_filter_le _ _) (by simp)
theorem cutL_pos (l : List Rg) : ∀ r ∈ cutL l, 0 ≤ r.1 ∧ r.1 < r.2 := by
  intro r hr
  unfold cutL at hr
  obtain ⟨h1, h2⟩ := List.mem_filter.1 hr
  obtain ⟨q, _, rfl⟩ := List.mem_map.1 h1
  exact ⟨by simp only; omega, by simpa using h2⟩
theorem cutL_mem (l : List Rg) (n : Int) : memR (cutL l) n ↔ memR l n := by
  constructor
  · rintro ⟨h0, r, hr, h1, h2⟩
    obtain ⟨h3, _⟩ := List.mem_filter.1 hr
    obtain ⟨q, hq, rfl⟩ := List.mem_map.1 h3
    simp only at h1 h2
    exact ⟨h0, q, hq, by omega, h2⟩
  · rintro ⟨h0, r, hr, h1, h2⟩
    refine ⟨h0, (max r.1 0, r.2), List.mem_filter.2 ⟨List.mem_map.2 ⟨r, hr, rfl⟩, ?_⟩, ?_, h2⟩
    · simp only [decide_eq_true_eq]; omega
    · simp only; omega
theorem cutL_fits {l : List Rg} (h : Fits64 l) : Fits64 (cutL l) := by
  intro r hr
  obtain ⟨h1, _⟩ := List.mem_filter.1 hr
  obtain ⟨q, hq, rfl⟩ := List.mem_map.1 h1
  have := h q hq
  simp only
  omega

theorem cells_new2 (w : World) (o : Obj) (t : TypeId) (xs : List Value) : ∀ j u, xs[j]? = some u → ((w.alloc o).alloc (.cells xs.toArray t)).cell? ((⟨w.heap.size + 1, 0, none⟩ : Addr).add j) = some u := by
  have h := cells_new (w.alloc o) t xs
  simpa using h
theorem one_two (x y : Int) : ∀ u ∈ [Value.int .i64 x, .int .i64 y], u.oneCell' = true := by intro u hu; simp at hu; rcases hu with rfl | rfl <;> rfl
theorem room2_63 {n : Nat} (h : n ≤ 2000000) : n + 1 ≤ maxLen := by unfold maxLen; omega
theorem room2_47 {n : Nat} (h : n ≤ 2000000) : (n + 1) * 16 ≤ 140737488355328 := by omega
theorem alloc1_le {B : Nat} {w : World} (h : B ≤ w.heap.size) (o : Obj) : B ≤ (w.alloc o).heap.size := by simp; omega
theorem alloc2_le {B : Nat} {w : World} (h : B ≤ w.heap.size) (o o' : Obj) : B ≤ ((w.alloc o).alloc o').heap.size := by simp; omega

set_option maxHeartbeats 800000 in
theorem counting_any (l : List Rg) (A : Option Addr) (c : Nat) (w : World) (h : RgIn w A l) :
    Calls Try.prog 28 #[.slice A l.length c] w fun e w' => ∃ v, e = .returned v ∧ w'.ownsRow w.heap.size 30 2 v (cutL l).length (rgv (cutL l)) ∧ Below w.heap.size w w' := by
  obtain ⟨i0, hi0, hz0, hz1, hz2⟩ := info_parts rginfo
  obtain ⟨h, hl, _⟩ := h
  go_enter Try.func28, Try.ntmps28
  go_wp2
  go_loopw [3, 8] (fun v i wr => ∃ k m : Nat, k ≤ l.length ∧ m ≤ k ∧ Hid (m = (cutL (l.take k)).length) ∧ i = .int .i64 k ∧ wr.ownsRow w.heap.size 30 2 v m (rgv (cutL (l.take k))) ∧ Below w.heap.size w wr) (fun _ i _ => l.length - (intOf i).toNat)
  case atStart => exact ⟨0, 0, Nat.zero_le _, Nat.le_refl _, rfl, rfl, own_nil _ _ _ _, Below.refl _ _⟩
  case round =>
    obtain ⟨k, m, hk, hm, HM, rfl, hown, hbel⟩ := hrel
    by_cases hlt : k < l.length
    · obtain ⟨b, off, rfl, hbB, hc⟩ := (h.here2.below hbel).rg (by omega)
      obtain ⟨x1, x2⟩ := hc k hlt
      have hi : (k : Int) < (l.length : Int) := by omega
      have hbs := hbel.size
      have HN := Lib.hid (cutL_take l k hlt)
      clear hc
      generalize l[k].1 = x at *
      generalize l[k].2 = y at *
      have HB := Lib.hid hbel
      have HO := Lib.hid hown
      clear hbel hown
      obtain ⟨x', hx', hcase⟩ : ∃ x', max x 0 = x' ∧ (x < 0 ∧ x' = 0 ∨ 0 ≤ x ∧ x' = x) := ⟨_, rfl, by omega⟩
      rw [hx'] at HN
      clear hx'
      by_cases hxy : x' < y
      · have hN := HN.out
        rw [if_pos hxy] at hN
        have HN1 := Lib.hid hN
        clear hN HN
        rcases hcase with ⟨hx0, rfl⟩ | ⟨hx0, rfl⟩
        · go_wp2_with (at_builtin; refine wpList_append_own _ rfl (.tmp 21) (.tmp 23) 22 rfl w.heap.size 30 i0 (.agg #[.int .i64 0, .int .i64 0]) 2 16 Try.underlying22 hi0 hz0 hz1 hz2 rfl (by decide) u3 m _ rfl ((HO.out.alloc _).alloc _) ⟨wr.heap.size + 1, 0, none⟩ 1 1 [.int .i64 0, .int .i64 y] rfl rfl (cells_new2 wr _ 30 [.int .i64 0, .int .i64 y]) (one_two 0 y) (room2_63 (by omega)) (room2_47 (by omega)) (alloc2_le hbs _ _) ?_)
          intro v' w1 hown' hgrow _
          have HB1 := Lib.hid (((HB.out.alloc hbs (.cells #[.int .i64 0, .int .i64 y] 30)).alloc (alloc1_le hbs _) (.cells #[.int .i64 0, .int .i64 y] 30)).grown hgrow (by simp; omega) (own_ge HO.out))
          have HO1 := Lib.hid hown'
          clear hown' hgrow
          go_wp2
          go_roundw
          case rel =>
            refine ⟨k + 1, m + 1, by omega, by omega, ?_, by go_num, ?_, HB1.out⟩
            · show _ = _
              rw [HN1.out, List.length_append, ← HM.out]; rfl
            · rw [HN1.out, rgv_append]; exact HO1.out
          case measure => simp [intOf]; omega
        · go_wp2_with (at_builtin; refine wpList_append_own _ rfl (.tmp 21) (.tmp 23) 22 rfl w.heap.size 30 i0 (.agg #[.int .i64 0, .int .i64 0]) 2 16 Try.underlying22 hi0 hz0 hz1 hz2 rfl (by decide) u3 m _ rfl ((HO.out.alloc _).alloc _) ⟨wr.heap.size + 1, 0, none⟩ 1 1 [.int .i64 x', .int .i64 y] rfl rfl (cells_new2 wr _ 30 [.int .i64 x', .int .i64 y]) (one_two x' y) (room2_63 (by omega)) (room2_47 (by omega)) (alloc2_le hbs _ _) ?_)
          intro v' w1 hown' hgrow _
          have HB1 := Lib.hid (((HB.out.alloc hbs (.cells #[.int .i64 x', .int .i64 y] 30)).alloc (alloc1_le hbs _) (.cells #[.int .i64 x', .int .i64 y] 30)).grown hgrow (by simp; omega) (own_ge HO.out))
          have HO1 := Lib.hid hown'
          clear hown' hgrow
          go_wp2
          go_roundw
          case rel =>
            refine ⟨k + 1, m + 1, by omega, by omega, ?_, by go_num, ?_, HB1.out⟩
            · show _ = _
              rw [HN1.out, List.length_append, ← HM.out]; rfl
            · rw [HN1.out, rgv_append]; exact HO1.out
          case measure => simp [intOf]; omega
      · have hN := HN.out
        rw [if_neg hxy] at hN
        have HN1 := Lib.hid hN
        have hxy' : y ≤ x' := by omega
        clear hN HN hxy
        rcases hcase with ⟨hx0, rfl⟩ | ⟨hx0, rfl⟩
        all_goals
          go_wp2_with fail
          go_roundw
          case rel =>
            refine ⟨k + 1, m, by omega, by omega, ?_, by go_num, ?_, HB.out.alloc hbs _⟩
            · show _ = _
              rw [HN1.out, ← HM.out]
            · rw [HN1.out]; exact HO.out.alloc _
          case measure => simp [intOf]; omega
    · obtain rfl : k = l.length := by omega
      have hm' := HM.out
      rw [List.take_length] at hown hm'
      subst hm'
      have HB := Lib.hid hbel
      have HO := Lib.hid hown
      clear hown hbel
      go_wp2
      go_ret
      exact ⟨u3, rfl, HO.out, HB.out⟩
end Go.Proofs.Ytfdmbgaincmefaa
