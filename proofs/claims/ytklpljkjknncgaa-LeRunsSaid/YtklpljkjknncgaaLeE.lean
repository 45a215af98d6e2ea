/- Contracts of octavoref01.Copy, Lent and Kept and of bytes.Clone: the same bytes in new memory; the mark behind them; that all stays. Conditions: the slice reads as the list that is named and has at most 2^47 bytes (Lent, Kept: 3 less). -/
import Derived.Test.YtklpljkjknncgaaLeA
import Derived.Test.YtklpljkjknncgaaLeC
import Derived.BigQuiet
import Derived.Deep.QuietTactic
namespace Go.Proofs.Ytklpljkjknncgaa
open Go.RowKit

theorem bv_take_succ (l : List UInt8) (k : Nat) (h : k < l.length) : bv (l.take (k + 1)) = bv (l.take k) ++ [.int .u8 (l[k].toNat : Int)] := by
  rw [List.take_succ_eq_append_getElem h, bv_append]
  rfl

set_option maxHeartbeats 400000 in
theorem copy_any (l : List UInt8) (A : Option Addr) (B c : Nat) (w : World) (hl : l.length ≤ 140737488355328) (h : Reads w B 1 A l.length (bv l)) :
    Calls Try.prog 19 #[.slice A l.length c] w fun e w' => ∃ v, e = .returned v ∧ w'.ownsRow w.heap.size 5 1 v l.length (bv l) ∧ Below w.heap.size w w' := by
  obtain ⟨i0, hi0, hz0, hz1, hz2⟩ := info_parts u8info
  go_enter Try.func19, Try.ntmps19
  go_wp2
  go_loopw [3, 4] (fun v i wr => ∃ k : Nat, k ≤ l.length ∧ i = .int .i64 k ∧ wr.ownsRow w.heap.size 5 1 v k (bv (l.take k)) ∧ Below w.heap.size w wr) (fun _ i _ => l.length - (intOf i).toNat)
  case atStart => exact ⟨0, Nat.zero_le _, rfl, own_nil _ _ _ _, Below.refl _ _⟩
  case round =>
    obtain ⟨k, hk, rfl, hown, hbel⟩ := hrel
    by_cases hlt : k < l.length
    · obtain ⟨b, off, rfl, hbB, hc⟩ := (h.over hbel).form (by omega)
      have hx := hc k _ (bv_get l k hlt)
      have hi : (k : Int) < (l.length : Int) := by omega
      have hbs := hbel.size
      have HN := Lib.hid (bv_take_succ l k hlt)
      generalize l[k].toNat = x at *
      go_wp2_with (at_builtin; refine wpList_append_own _ rfl _ _ 22 rfl w.heap.size 5 i0 (.int .u8 0) 1 1 Try.underlying22 hi0 hz0 hz1 hz2 rfl (by decide) _ _ _ rfl (hown.alloc _) ⟨wr.heap.size, 0, none⟩ 1 1 [.int .u8 x] rfl rfl ?c1 ?c2 ?c3 ?c4 ?c5 ?_)
      case c1 => exact cell_one_new _ _ _
      case c2 => intro u hu; simp at hu; subst hu; rfl
      case c3 => unfold maxLen; omega
      case c4 => omega
      case c5 => simp; omega
      intro v' w1 hown' hgrow _
      go_wp2
      go_roundw
      case rel =>
        refine ⟨k + 1, by omega, by go_num, ?_, (hbel.alloc (by omega) _).grown hgrow (by simp; omega) (own_ge hown)⟩
        rw [HN.out]
        exact hown'
      case measure => simp [intOf]; omega
    · obtain rfl : k = l.length := by omega
      rw [List.take_length] at hown
      clear hlt
      go_wp2
      go_ret
      exact ⟨_, rfl, hown, hbel⟩

set_option maxHeartbeats 400000 in
theorem clone_some (l : List UInt8) (a : Addr) (B c : Nat) (w : World) (hl : l.length ≤ 140737488355328) (h : Reads w B 1 (some a) l.length (bv l)) :
    Calls Try.prog 28 #[.slice (some a) l.length c] w fun e w' => ∃ v, e = .returned v ∧ w'.ownsRow w.heap.size 5 1 v l.length (bv l) ∧ Below w.heap.size w w' := by
  obtain ⟨i0, hi0, hz0, hz1, hz2⟩ := info_parts u8info
  have hq := fun (w : World) => Lib.run_eql_slice_nil (P := Try.prog) w 22 5 (some a) l.length c 0 0 Try.underlying22
  go_enter Try.func28, Try.ntmps28
  go_wp2_with (at_builtin; refine wpList_append_any _ rfl (.tmp 5) (.tmp 6) _ rfl w.heap.size 5 i0 _ 1 1 Try.underlying22 hi0 hz0 hz1 hz2 rfl (by omega) (.slice (some ⟨w.heap.size, 0, none⟩) 0 0) 0 [] rfl ?h1 w.heap.size (some a) l.length c (bv l) rfl (h.here.alloc (Nat.le_refl _) _) (bv_one l) ?h2 ?h3 ?h4 ?_)
  case h1 => exact ⟨by simp, .inr ⟨w.heap.size, 0, #[], rfl, Nat.le_refl _, heap_alloc_new w _, Nat.le_refl _, by simp [maxLen], by simp, by simp⟩⟩
  case h2 => unfold maxLen; omega
  case h3 => omega
  case h4 => simp
  intro v1 w1 hown1 hg1 _
  go_wp2
  go_ret
  exact ⟨v1, rfl, by simpa using hown1, ((Below.refl _ _).alloc (Nat.le_refl _) _).grown hg1 (by simp) (by simp [Value.ownBlock])⟩

theorem clone_nil (c : Nat) (w : World) :
    Calls Try.prog 28 #[.slice none 0 c] w fun e w' => e = .returned (.slice none 0 0) ∧ w = w' := by
  have hq := fun (w : World) => Lib.run_eql_slice_nil (P := Try.prog) w 22 5 none 0 c 0 0 Try.underlying22
  go_enter Try.func28, Try.ntmps28
  go_wp2
  go_ret
  exact ⟨rfl, rfl⟩

/-- bytes.Clone: the same bytes, in new memory. -/
theorem clone_any (l : List UInt8) (A : Option Addr) (B c : Nat) (w : World) (hl : l.length ≤ 140737488355328) (h : Reads w B 1 A l.length (bv l)) :
    Calls Try.prog 28 #[.slice A l.length c] w fun e w' => ∃ v, e = .returned v ∧ w'.ownsRow w.heap.size 5 1 v l.length (bv l) ∧ Below w.heap.size w w' := by
  cases A with
  | some a => exact clone_some l a B c w hl h
  | none =>
    have hl0 : l = [] := by
      rcases Nat.eq_zero_or_pos l.length with h0 | h0
      · exact List.eq_nil_of_length_eq_zero h0
      · obtain ⟨b, off, e, _⟩ := h.form h0
        cases e
    subst hl0
    exact (clone_nil c w).mono fun e w' ⟨he, hw⟩ => ⟨_, he, by subst hw; exact own_nil _ _ _ _, by subst hw; exact Below.refl _ _⟩

/-- What Lent gives: the bytes, and behind them, within the capacity, the mark of three bytes. -/
def LentAt (w : World) (base : Nat) (v : Value) (l : List UInt8) : Prop :=
  ∃ g cap cur, v = .slice (some ⟨g, 0, none⟩) l.length cap ∧ base ≤ g ∧ w.heap[g]? = some (.cells cur 5 (0, 0)) ∧ l.length + 3 ≤ cap ∧ cap ≤ maxLen ∧ cur.size = cap ∧ cur.toList.take (l.length + 3) = bv (l ++ [165, 90, 165])

theorem cells_new (w : World) (t : TypeId) (xs : List Value) : ∀ j u, xs[j]? = some u → (w.alloc (.cells xs.toArray t)).cell? ((⟨w.heap.size, 0, none⟩ : Addr).add j) = some u := by
  intro j u hu
  have ha : (⟨w.heap.size, 0, none⟩ : Addr).add j = ⟨w.heap.size, j, none⟩ := by
    unfold Addr.add
    by_cases hj : j = 0
    · subst hj; rfl
    · simp [hj]
  rw [ha, (Blk.new w t xs.toArray).cell j]
  simpa using hu

set_option maxHeartbeats 400000 in
theorem lent_any (l : List UInt8) (A : Option Addr) (B c : Nat) (w : World) (hl : l.length ≤ 140737488355325) (h : Reads w B 1 A l.length (bv l)) :
    Calls Try.prog 15 #[.slice A l.length c] w fun e w' => ∃ v, e = .returned v ∧ LentAt w' w.heap.size v l ∧ Below w.heap.size w w' := by
  obtain ⟨i0, hi0, hz0, hz1, hz2⟩ := info_parts u8info
  go_enter Try.func15, Try.ntmps15
  go_wp2_with fail
  refine (copy_any l A B c _ (by omega) h).mono ?_
  rintro e w1 ⟨v1, rfl, hown1, hb1⟩
  have hbs := hb1.size
  go_wp2_with (at_builtin; refine wpList_append_own _ rfl (.tmp 5) (.tmp 6) 22 rfl w.heap.size 5 i0 (.int .u8 0) 1 1 Try.underlying22 hi0 hz0 hz1 hz2 rfl (by decide) v1 l.length (bv l) rfl (hown1.alloc _) ⟨w1.heap.size, 0, none⟩ 3 3 (bv [165, 90, 165]) rfl rfl ?c1 ?c2 ?c3 ?c4 ?c5 ?_)
  case c1 => exact cells_new w1 5 (bv [165, 90, 165])
  case c2 => exact bv_one _
  case c3 => unfold maxLen; omega
  case c4 => omega
  case c5 => simp; omega
  intro v2 w2 hown2 hg2 _
  have hb2 := (hb1.alloc hbs (.cells #[.int .u8 165, .int .u8 90, .int .u8 165] 5)).grown hg2 (by simp; omega) (own_ge hown1)
  rcases hown2.2 with ⟨_, h0⟩ | ⟨g, cap, cur, rfl, hbg, hheap, hnc, hcm, hcs, htk⟩
  · omega
  · have HB := Lib.hid hb2
    clear hb2
    have HH := Lib.hid hheap
    have HT := Lib.hid htk
    have HS := Lib.hid hcs
    clear hheap htk hcs
    unfold maxLen at hcm
    go_wp2
    go_ret
    exact ⟨.slice (some ⟨g, 0, none⟩) l.length cap, rfl, ⟨g, cap, cur, rfl, hbg, HH.out, hnc, by unfold maxLen; exact hcm, by rw [HS.out, Nat.mul_one], by rw [← Nat.mul_one (l.length + 3), HT.out, bv_append]⟩, HB.out⟩

theorem LentAt.cells {w : World} {base : Nat} {v : Value} {l : List UInt8} (h : LentAt w base v l) :
    ∃ g cap, v = .slice (some ⟨g, 0, none⟩) l.length cap ∧ base ≤ g ∧ g < w.heap.size ∧ l.length + 3 ≤ cap ∧ cap ≤ maxLen ∧ ∀ j u, (bv (l ++ [165, 90, 165]))[j]? = some u → w.cell? ⟨g, j, none⟩ = some u := by
  obtain ⟨g, cap, cur, rfl, hb, hh, hc, hm, hcs, ht⟩ := h
  have hblk : Blk w g 5 cur := hh
  refine ⟨g, cap, rfl, hb, hblk.lt, hc, hm, fun j u hu => ?_⟩
  rw [hblk.cell j]
  rw [← ht, List.getElem?_take] at hu
  by_cases hj : j < l.length + 3
  · rw [if_pos hj] at hu
    simpa using hu
  · rw [if_neg hj] at hu
    cases hu
theorem LentAt.below {w w' : World} {base : Nat} {v : Value} {l : List UInt8} (h : LentAt w base v l) (hb : Below w.heap.size w w') : LentAt w' base v l := by
  obtain ⟨g, cap, cur, rfl, h1, hh, h2⟩ := h
  have hblk : Blk w g 5 cur := hh
  exact ⟨g, cap, cur, rfl, h1, hblk.below hb hblk.lt, h2⟩
theorem LentAt.reads {w : World} {base : Nat} {v : Value} {l : List UInt8} (h : LentAt w base v l) : ∃ g cap, v = .slice (some ⟨g, 0, none⟩) l.length cap ∧ Reads w w.heap.size 1 (some ⟨g, 0, none⟩) l.length (bv l) := by
  obtain ⟨g, cap, rfl, hb, hg, hc, hm, hcell⟩ := h.cells
  refine ⟨g, cap, rfl, by simp [bv], fun _ => ⟨_, rfl, hg, fun j u hu => ?_⟩⟩
  have ha : (⟨g, 0, none⟩ : Addr).add j = ⟨g, j, none⟩ := by
    unfold Addr.add
    by_cases hj : j = 0
    · subst hj; rfl
    · simp [hj]
  rw [ha]
  apply hcell
  rw [bv_append, List.getElem?_append_left, hu]
  exact (List.getElem?_eq_some_iff.1 hu).1

set_option maxHeartbeats 400000 in
theorem kept_any (l : List UInt8) (v : Value) (A : Option Addr) (B c base : Nat) (w : World) (hl : l.length ≤ 140737488355325) (hv : LentAt w base v l) (h : Reads w B 1 A l.length (bv l)) :
    Calls Try.prog 18 #[v, .slice A l.length c] w fun e w' => e = .returned (.bool true) ∧ Below w.heap.size w w' := by
  obtain ⟨g, cap, rfl, hr⟩ := hv.reads
  obtain ⟨_, _, hvv, _, hg, hcap, hcm, hcell⟩ := hv.cells
  obtain ⟨rfl, rfl⟩ : _ = g ∧ _ = cap := by simpa using hvv.symm
  clear hvv
  unfold maxLen at hcm
  have hm1 : l.length ≤ maxLen := by unfold maxLen; omega
  go_enter Try.func18, Try.ntmps18
  go_wp2_with fail
  refine (same_any l l _ _ _ _ _ _ _ hm1 hm1 hr h).mono ?_
  rw [show decide (l = l) = true from by simp]
  rintro e w1 ⟨rfl, hb1⟩
  have c0 := (hb1.cell (p := ⟨_, l.length, none⟩) hg).trans (hcell l.length _ (by rw [bv_get _ _ (by simp)]))
  have c1 := (hb1.cell (p := ⟨_, l.length + 1, none⟩) hg).trans (hcell (l.length + 1) _ (by rw [bv_get _ _ (by simp)]))
  have c2 := (hb1.cell (p := ⟨_, l.length + 2, none⟩) hg).trans (hcell (l.length + 2) _ (by rw [bv_get _ _ (by simp)]))
  simp at c0 c1 c2
  go_wp2
  go_ret
  exact ⟨rfl, hb1⟩
end Go.Proofs.Ytklpljkjknncgaa
