/- Contract of octavolaw06.does: Oldest, and all calls; how pins grow. Conditions: those that each theorem names. -/
import Derived.Test.YtopdfhedifcalaaDoB
namespace Go.Proofs.Ytopdfhedifcalaa
open Go.RowKit
attribute [local go_sem ↓] Go.wp_at_zero Go.wp_at_succ

section
variable {n p q : Nat} {w : World} {F G : Nat → Prop} {s : LU}
theorem does_read {w0 w1 : World} (h : TwoL n w p q F G s s) (hb : Below n w0 w) (hn : n ≤ w.heap.size) (h1 : Below w.heap.size w w1) :
    (∃ F G, TwoL n w1 p q F G s s) ∧ Below n w0 w1 ∧ n ≤ w1.heap.size :=
  ⟨⟨_, _, h.below h1⟩, hb.trans (h1.mono hn), Nat.le_trans hn h1.size⟩
set_option maxRecDepth 100000 in
set_option maxHeartbeats 4000000 in
theorem does_oldest (h : TwoL n w p q F G s s) (hn : n ≤ w.heap.size) (kd k : Int) (hd : kd ≠ 1 ∧ kd ≠ 2 ∧ kd ≠ 3 ∧ kd ≠ 4 ∧ kd ≠ 5 ∧ kd ≠ 6 ∧ kd ≠ 7) :
    Calls Try.prog 10 #[.pointer (some ⟨p, 0, none⟩), .pointer (some ⟨q, 0, none⟩), .agg #[.int .i64 kd, .int .i64 k]] w (DoesL n w p q s) := by
  have H := Lib.hid h
  have HN := Lib.hid hn
  obtain ⟨d1, d2, d3, d4, d5, d6, d7⟩ := hd
  have q1 : (kd == 1) = false := by simp [d1]
  have q2 : (kd == 2) = false := by simp [d2]
  have q3 : (kd == 3) = false := by simp [d3]
  have q4 : (kd == 4) = false := by simp [d4]
  have q5 : (kd == 5) = false := by simp [d5]
  have q6 : (kd == 6) = false := by simp [d6]
  have q7 : (kd == 7) = false := by simp [d7]
  have HAt := Lib.hid (fun W (hb : Below w.heap.size w W) => ref_at (h.below hb).ref k)
  have HD := Lib.hid (fun W (hb : Below w.heap.size w W) => at_oldest (h.below hb).new)
  have HW := Lib.hid (fun W (hb : Below w.heap.size w W) => ref_oldest (h.below hb).ref)
  obtain ⟨wA, hwA⟩ : ∃ wA : World, wA = w.alloc (.cells #[.int .i64 kd, .int .i64 k] 34) := ⟨_, rfl⟩
  have hblk : Blk wA w.heap.size 34 #[.int .i64 kd, .int .i64 k] := by rw [hwA]; exact heap_alloc_new _ _
  have HBA : Hid (Below w.heap.size w wA) := Lib.hid (by rw [hwA]; exact (Below.refl _ _).alloc (Nat.le_refl _) _)
  have hsz : wA.heap.size = w.heap.size + 1 := by rw [hwA]; simp
  have a0 : wA.cell? ⟨w.heap.size, 0, none⟩ = some (.int .i64 kd) := by rw [hblk.cell]; rfl
  have a1 : wA.cell? ⟨w.heap.size, 1, none⟩ = some (.int .i64 k) := by rw [hblk.cell]; rfl
  have HTA := Lib.hid (H.out.below HBA.out)
  have HBn : Hid (Below n w wA) := Lib.hid (HBA.out.mono hn)
  have HNA : Hid (n ≤ wA.heap.size) := Lib.hid (by omega)
  rcases old_place s with ⟨i, hi, ho, hx⟩ | ⟨ho, hx⟩
  · have hov : oldV s = .tuple #[.int .i64 s.items[i].key, .bool true] := oldV_get hx
    rw [hov] at HD
    rw [ho] at HW
    have hi0 : (0 : Int) ≤ (i : Int) := by omega
    have hii : (i : Int) < (s.items.length : Int) := by omega
    have hmx : max (i : Int) 0 = (i : Int) := by omega
    have HC : Hid (∀ w1, Below wA.heap.size wA w1 → ∃ g cap, w1.cell? ⟨q, 1, none⟩ = some (.slice (some ⟨g, 0, none⟩) s.items.length cap) ∧ w1.cell? ⟨g, i * 3, none⟩ = some (.int .i64 s.items[i].key) ∧ s.items.length ≤ cap ∧ cap ≤ maxLen) := Lib.hid (by
      intro w1 hb
      obtain ⟨v, hR⟩ := (HTA.out.below hb).ref
      obtain ⟨g, cap, hv, -, -, hlc, hcm, hc, -⟩ := it_cells hR.row (by omega)
      exact ⟨g, cap, hR.cells.2.trans (by rw [hv]), (hc i hi).1, hlc, hcm⟩)
    clear h hov ho hx
    generalize hX : s.items[i] = X at *
    go_enter Try.func10, Try.ntmps10
    go_upto_region 25 with (go_at_call 12; refine (HAt.out _ ((Below.refl _ _).alloc (Nat.le_refl _) _)).mono ?_; rintro e w1 ⟨rfl, rfl⟩)
    rw [← hwA]
    clear hwA hblk
    go_wp2_with (first
      | (go_at_call 28; refine (HW.out _ (HBA.out.trans (hb1.mono HBA.out.size))).mono ?_; rintro e w2 ⟨rfl, rfl⟩; obtain ⟨g, cap, c1, x0, hlc, hcm⟩ := HC.out _ hb1; unfold maxLen at hcm; have HFin := Lib.hid (does_read HTA.out HBn.out HNA.out hb1); clear hb1)
      | (go_at_call 21; refine (HD.out _ HBA.out).mono ?_; rintro e w1 ⟨rfl, hb1⟩))
    go_ret
    exact ⟨rfl, HFin.out⟩
  · have hov : oldV s = .tuple #[.int .i64 0, .bool false] := oldV_no hx
    rw [hov] at HD
    rw [ho] at HW
    clear h hov ho hx
    go_enter Try.func10, Try.ntmps10
    go_upto_region 25 with (go_at_call 12; refine (HAt.out _ ((Below.refl _ _).alloc (Nat.le_refl _) _)).mono ?_; rintro e w1 ⟨rfl, rfl⟩)
    rw [← hwA]
    clear hwA hblk
    go_wp2_with (first
      | (go_at_call 28; refine (HW.out _ (HBA.out.trans (hb1.mono HBA.out.size))).mono ?_; rintro e w2 ⟨rfl, rfl⟩; have HFin := Lib.hid (does_read HTA.out HBn.out HNA.out hb1); clear hb1)
      | (go_at_call 21; refine (HD.out _ HBA.out).mono ?_; rintro e w1 ⟨rfl, hb1⟩))
    go_ret
    exact ⟨rfl, HFin.out⟩

/-- What a call leaves. -/
def LU.step (s : LU) (kd k : Int) : LU :=
  if kd = 1 then (s.use k).1 else if kd = 2 then (s.add k).1 else if kd = 3 then (s.drop k).1 else if kd = 4 then (s.pin k).1 else if kd = 5 then (s.unpin k).1 else if kd = 6 then (s.mark k true).1 else if kd = 7 then (s.mark k false).1 else s
theorem does_any (h : TwoL n w p q F G s s) (hn : n ≤ w.heap.size) (hp : PinsLe s 1152921504606846975) (kd k : Int) (hk : Num k) :
    Calls Try.prog 10 #[.pointer (some ⟨p, 0, none⟩), .pointer (some ⟨q, 0, none⟩), .agg #[.int .i64 kd, .int .i64 k]] w (DoesL n w p q (s.step kd k)) := by
  unfold LU.step
  by_cases h1 : kd = 1
  · rw [if_pos h1, h1]; exact does_use h hn k hk
  rw [if_neg h1]
  by_cases h2 : kd = 2
  · rw [if_pos h2, h2]; exact does_add h hn k hk
  rw [if_neg h2]
  by_cases h3 : kd = 3
  · rw [if_pos h3, h3]; exact does_drop h hn k hk
  rw [if_neg h3]
  have hpl := idx_place s k
  have hok := h.new.ok
  by_cases h4 : kd = 4
  · rw [if_pos h4, h4]
    rcases hpl with ⟨i, hi, e, -⟩ | ⟨e1, e2⟩
    · subst e; exact does_pin_at h hn i hi hp hk
    · exact does_pin_none h hn hp k hk e1 e2
  rw [if_neg h4]
  by_cases h5 : kd = 5
  · rw [if_pos h5, h5]
    rcases hpl with ⟨i, hi, e, -⟩ | ⟨e1, e2⟩
    · subst e
      by_cases hq : 0 < s.items[i].pins
      · exact does_unpin_at h hn i hi hp hk hq
      · exact does_unpin_zero h hn i hi hp hk hq
    · exact does_unpin_none h hn hp k hk e1 e2
  rw [if_neg h5]
  by_cases h6 : kd = 6
  · rw [if_pos h6, h6]
    rcases hpl with ⟨i, hi, e, -⟩ | ⟨e1, e2⟩
    · subst e; exact does_mark6_at h hn i hi hk
    · exact does_mark6_none h hn k hk e1 e2
  rw [if_neg h6]
  by_cases h7 : kd = 7
  · rw [if_pos h7, h7]
    rcases hpl with ⟨i, hi, e, -⟩ | ⟨e1, e2⟩
    · subst e; exact does_mark7_at h hn i hi hk
    · exact does_mark7_none h hn k hk e1 e2
  rw [if_neg h7]
  exact does_oldest h hn kd k ⟨h1, h2, h3, h4, h5, h6, h7⟩
end
/-! ### Pins -/
section
variable {s : LU} {m : Nat}
theorem PinsLe.mono {m' : Nat} (h : PinsLe s m) (hm : m ≤ m') : PinsLe s m' := fun x hx => Nat.le_trans (h x hx) hm
theorem PinsLe.out (h : PinsLe s m) (k : Int) : PinsLe (s.out k) m := fun x hx => h x (List.mem_of_mem_eraseP hx)
theorem PinsLe.put (h : PinsLe s m) {x : It} (hx : x.pins ≤ m) : PinsLe (s.put x) m := fun y hy => by
  rcases List.mem_append.1 hy with hy | hy
  · exact h y hy
  · rw [List.mem_singleton.1 hy]; exact hx
theorem PinsLe.upd {m' : Nat} (h : PinsLe s m) (hm : m ≤ m') (k : Int) (f : It → It) (hf : ∀ x, x.pins ≤ m → (f x).pins ≤ m') : PinsLe (s.upd k f) m' := fun y hy => by
  obtain ⟨x, hx, rfl⟩ := List.mem_map.1 hy
  split
  · exact hf x (h x hx)
  · exact Nat.le_trans (h x hx) hm
theorem PinsLe.use (h : PinsLe s m) (k : Int) : PinsLe (s.use k).1 m := by
  unfold LU.use
  cases hg : s.get k with
  | none => exact h
  | some x => exact (h.out k).put (h x (LU.get_some hg).1)
theorem PinsLe.add (h : PinsLe s m) (k : Int) : PinsLe (s.add k).1 m := by
  unfold LU.add
  split
  · exact h
  split
  · cases s.oldest with
    | none => exact h
    | some x => exact (h.out _).put (Nat.zero_le _)
  · exact h.put (Nat.zero_le _)
theorem PinsLe.drop (h : PinsLe s m) (k : Int) : PinsLe (s.drop k).1 m := by
  unfold LU.drop
  cases s.get k with
  | none => exact h
  | some x =>
    simp only
    split
    · exact h
    · exact h.out k
theorem PinsLe.pin (h : PinsLe s m) (k : Int) : PinsLe (s.pin k).1 (m + 1) := h.upd (Nat.le_succ m) k _ fun _ hx => Nat.succ_le_succ hx
theorem PinsLe.mark (h : PinsLe s m) (k : Int) (on : Bool) : PinsLe (s.mark k on).1 m := h.upd (Nat.le_refl m) k _ fun _ hx => hx
theorem PinsLe.unpin (h : PinsLe s m) (k : Int) : PinsLe (s.unpin k).1 m := by
  unfold LU.unpin
  cases s.get k with
  | none => exact h
  | some x =>
    simp only
    split
    · exact h.upd (Nat.le_refl m) k _ fun y hy => Nat.le_trans (Nat.sub_le _ _) hy
    · exact h
theorem PinsLe.step (h : PinsLe s m) (kd k : Int) : PinsLe (s.step kd k) (m + 1) := by
  unfold LU.step
  repeat' split
  all_goals first
    | exact h.pin k
    | exact (h.use k).mono (Nat.le_succ m)
    | exact (h.add k).mono (Nat.le_succ m)
    | exact (h.drop k).mono (Nat.le_succ m)
    | exact (h.unpin k).mono (Nat.le_succ m)
    | exact (h.mark k _).mono (Nat.le_succ m)
    | exact h.mono (Nat.le_succ m)
end
end Go.Proofs.Ytopdfhedifcalaa
