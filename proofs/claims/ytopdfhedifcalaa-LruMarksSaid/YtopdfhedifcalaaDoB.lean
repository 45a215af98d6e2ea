/- Contract of octavolaw06.does, second part: Pin, Unpin, Mark, Oldest. Conditions: those that each theorem names. -/
import Derived.Test.YtopdfhedifcalaaDoA
namespace Go.Proofs.Ytopdfhedifcalaa
open Go.RowKit
attribute [local go_sem ↓] Go.wp_at_zero Go.wp_at_succ

section
variable {n p q : Nat} {w w1 w0 wS : World} {F G : Nat → Prop} {s t : LU}
/-- One cell of an item is stored, its key stays. -/
theorem RefL.setItem {g m c : Nat} (h : RefL w G q (.slice (some ⟨g, 0, none⟩) m c) t) (i : Nat) (hi : i < t.items.length) (j : Nat) (hj : j < 3) (u : Value) (x : It) (hx : encI x = (encI t.items[i]).set j u) (hkey : x.key = t.items[i].key) :
    RefAtL (w.setCell ⟨g, i * 3 + j, none⟩ u) G q { t with items := t.items.set i x } ∧ Only G w (w.setCell ⟨g, i * 3 + j, none⟩ u) := by
  have hgG : G g := h.row.fp g rfl
  have hne : (Value.slice (some ⟨g, 0, none⟩) m c).ownBlock ≠ some q := own_blk_ne h.row.own h.blk (by decide)
  have hgq : g ≠ q := fun e => hne (by rw [← e]; rfl)
  have hk : (t.items.set i x).map It.key = t.items.map It.key := by
    rw [List.map_set, hkey, ← List.getElem_map It.key (l := t.items) (h := by simpa using hi), List.set_getElem_self]
  have hO : Only (fun k => k = g) w (w.setCell ⟨g, i * 3 + j, none⟩ u) := (Only.refl (fun k => k = g) w).setCell (p := ⟨g, i * 3 + j, none⟩) (.inl rfl) u
  refine ⟨⟨_, h.blk.only hO fun e => hgq e.symm, h.fp, h.row.set encI_len rfl i hi j hj u x hx, ⟨?_, ?_⟩, h.cap⟩, hO.mono fun k _ e => e ▸ hgG⟩
  · show ((t.items.set i x).map It.key).Nodup
    rw [hk]; exact h.ok.nodup
  · show (t.items.set i x).length ≤ _
    rw [List.length_set]; exact h.ok.len
theorem does_end (h : TwoL n wS p q F G s t) (hb : Below n w0 wS) (hn : n ≤ wS.heap.size) (hd : LruAt w1 (Gr F wS w1) p t) (ho : Only F wS w1) :
    (∃ F G, TwoL n w1 p q F G t t) ∧ Below n w0 w1 ∧ n ≤ w1.heap.size :=
  ⟨⟨_, _, h.newOp hn hd ho⟩, hb.trans (ho.below (fun k hk => (h.fin k hk).1) hn), Nat.le_trans hn ho.size⟩
end
section
variable {n p q : Nat} {w : World} {F G : Nat → Prop} {s : LU}
set_option maxRecDepth 100000 in
set_option maxHeartbeats 4000000 in
theorem does_pin_none (h : TwoL n w p q F G s s) (hn : n ≤ w.heap.size) (hp : PinsLe s 1152921504606846975) (k : Int) (hk : Num k) (hh : s.has k = false) (hx : s.idx k = -1) :
    Calls Try.prog 10 #[.pointer (some ⟨p, 0, none⟩), .pointer (some ⟨q, 0, none⟩), .agg #[.int .i64 4, .int .i64 k]] w (DoesL n w p q (s.pin k).1) := by
  have H := Lib.hid h
  have HN := Lib.hid hn
  have hok := h.new.ok
  have hE := LU.pin_none hh
  have HE := Lib.hid hE
  have HAt := Lib.hid (fun W (hb : Below w.heap.size w W) => ref_at (h.below hb).ref k)
  rw [hx] at HAt
  have HD := Lib.hid (fun W (F G : Nat → Prop) (h : TwoL n W p q F G s s) => at_pin h.new (fun x hx => Nat.le_succ_of_le (hp x hx)) k hk)
  rw [hE] at HD
  clear h hE hx hh hok
  obtain ⟨wA, hwA⟩ : ∃ wA : World, wA = w.alloc (.cells #[.int .i64 4, .int .i64 k] 34) := ⟨_, rfl⟩
  have hblk : Blk wA w.heap.size 34 #[.int .i64 4, .int .i64 k] := by rw [hwA]; exact heap_alloc_new _ _
  have HBA : Hid (Below w.heap.size w wA) := Lib.hid (by rw [hwA]; exact (Below.refl _ _).alloc (Nat.le_refl _) _)
  have hsz : wA.heap.size = w.heap.size + 1 := by rw [hwA]; simp
  have a0 : wA.cell? ⟨w.heap.size, 0, none⟩ = some (.int .i64 4) := by rw [hblk.cell]; rfl
  have a1 : wA.cell? ⟨w.heap.size, 1, none⟩ = some (.int .i64 k) := by rw [hblk.cell]; rfl
  have HTA := Lib.hid (H.out.below HBA.out)
  have HBn : Hid (Below n w wA) := Lib.hid (HBA.out.mono hn)
  have HNA : Hid (n ≤ wA.heap.size) := Lib.hid (by omega)
  go_enter Try.func10, Try.ntmps10
  go_upto_region 12 with (go_at_call 12; refine (HAt.out _ ((Below.refl _ _).alloc (Nat.le_refl _) _)).mono ?_; rintro e w1 ⟨rfl, rfl⟩)
  rw [← hwA]
  clear hwA hblk
  go_wp2_with (go_at_call 20; refine (HD.out _ _ _ HTA.out).mono ?_; rintro e w1 ⟨rfl, hd1, ho1⟩; have HFin := Lib.hid (does_end HTA.out HBn.out HNA.out hd1 ho1); clear hd1 ho1)
  go_ret
  rw [HE.out]
  exact ⟨rfl, HFin.out⟩
set_option maxRecDepth 100000 in
set_option maxHeartbeats 4000000 in
theorem does_pin_at (h : TwoL n w p q F G s s) (hn : n ≤ w.heap.size) (i : Nat) (hi : i < s.items.length) (hp : PinsLe s 1152921504606846975) (hk : Num s.items[i].key) :
    Calls Try.prog 10 #[.pointer (some ⟨p, 0, none⟩), .pointer (some ⟨q, 0, none⟩), .agg #[.int .i64 4, .int .i64 s.items[i].key]] w (DoesL n w p q (s.pin s.items[i].key).1) := by
  have H := Lib.hid h
  have HN := Lib.hid hn
  have hok := h.new.ok
  have hE := LU.pin_at hok hi
  have hidx : s.idx s.items[i].key = i := LU.idx_some hi rfl fun j hj e => List.pairwise_iff_getElem.1 (LU.pair_ne hok) j i (by omega) hi hj e
  have HAt := Lib.hid (fun W (hb : Below w.heap.size w W) => ref_at (h.below hb).ref s.items[i].key)
  rw [hidx] at HAt
  have HD := Lib.hid (fun W (F G : Nat → Prop) (t : LU) (h : TwoL n W p q F G s t) => at_pin h.new (fun x hx => Nat.le_succ_of_le (hp x hx)) _ hk)
  rw [hE] at HD
  rw [hE]
  have hi0 : (0 : Int) ≤ (i : Int) := by omega
  have hii : (i : Int) < (s.items.length : Int) := by omega
  obtain ⟨wA, hwA⟩ : ∃ wA : World, wA = w.alloc (.cells #[.int .i64 4, .int .i64 s.items[i].key] 34) := ⟨_, rfl⟩
  have hblk : Blk wA w.heap.size 34 #[.int .i64 4, .int .i64 s.items[i].key] := by rw [hwA]; exact heap_alloc_new _ _
  have HBA : Hid (Below w.heap.size w wA) := Lib.hid (by rw [hwA]; exact (Below.refl _ _).alloc (Nat.le_refl _) _)
  have hsz : wA.heap.size = w.heap.size + 1 := by rw [hwA]; simp
  have a0 : wA.cell? ⟨w.heap.size, 0, none⟩ = some (.int .i64 4) := by rw [hblk.cell]; rfl
  have a1 : wA.cell? ⟨w.heap.size, 1, none⟩ = some (.int .i64 s.items[i].key) := by rw [hblk.cell]; rfl
  have HTA := Lib.hid (H.out.below HBA.out)
  have HBn : Hid (Below n w wA) := Lib.hid (HBA.out.mono hn)
  have HNA : Hid (n ≤ wA.heap.size) := Lib.hid (by omega)
  obtain ⟨v, hR⟩ := HTA.out.ref
  obtain ⟨g, cap, hv, hgG, hgw, hlc, hcm, hc, hfz⟩ := it_cells hR.row (by omega)
  obtain ⟨-, x1, x2⟩ := hc i hi
  subst hv
  have c1 := hR.cells.2
  have fz := hfz (i * 3 + 1)
  unfold maxLen at hcm
  have HR := Lib.hid hR
  have hgn : w.heap.size ≠ g := fun e => by have := (H.out.gin g hgG).2; omega
  have hpi := hp _ (List.getElem_mem hi)
  have hpb : (s.items[i].pins : Int) + 1 ≤ 1152921504606846976 := by omega
  have HSet : Hid (TwoL n (wA.setCell ⟨g, i * 3 + 1, none⟩ (.int .i64 ((s.items[i].pins : Int) + 1))) p q F G s { s with items := s.items.set i { s.items[i] with pins := s.items[i].pins + 1 } } ∧ Below n w (wA.setCell ⟨g, i * 3 + 1, none⟩ (.int .i64 ((s.items[i].pins : Int) + 1))) ∧ n ≤ (wA.setCell ⟨g, i * 3 + 1, none⟩ (.int .i64 ((s.items[i].pins : Int) + 1))).heap.size) := Lib.hid (by
    have hs := HR.out.setItem i hi 1 (by decide) (.int .i64 ((s.items[i].pins : Int) + 1)) { s.items[i] with pins := s.items[i].pins + 1 } rfl rfl
    exact ⟨HTA.out.refSet hs.1 hs.2, HBn.out.trans (hs.2.below (fun k hk => (H.out.gin k hk).1) HNA.out), Nat.le_trans HNA.out hs.2.size⟩)
  have y1 : (wA.setCell ⟨g, i * 3 + 1, none⟩ (.int .i64 ((s.items[i].pins : Int) + 1))).cell? ⟨w.heap.size, 1, none⟩ = some (.int .i64 s.items[i].key) := (cell_far _ _ (fun e => absurd e.symm hgn)).trans a1
  have y0 : (wA.setCell ⟨g, i * 3 + 1, none⟩ (.int .i64 ((s.items[i].pins : Int) + 1))).cell? ⟨w.heap.size, 0, none⟩ = some (.int .i64 4) := (cell_far _ _ (fun e => absurd e.symm hgn)).trans a0
  clear h hE hidx hok hc hfz hR
  generalize hX : s.items[i] = X at *
  go_enter Try.func10, Try.ntmps10
  go_upto_region 12 with (go_at_call 12; refine (HAt.out _ ((Below.refl _ _).alloc (Nat.le_refl _) _)).mono ?_; rintro e w1 ⟨rfl, rfl⟩)
  rw [← hwA]
  clear hwA hblk
  go_wp2_with (go_at_call 20; refine (HD.out _ _ _ _ HSet.out.1).mono ?_; rintro e w1 ⟨rfl, hd1, ho1⟩; have HFin := Lib.hid (does_end HSet.out.1 HSet.out.2.1 HSet.out.2.2 hd1 ho1); clear hd1 ho1)
  go_ret
  exact ⟨rfl, HFin.out⟩
set_option maxRecDepth 100000 in
set_option maxHeartbeats 4000000 in
theorem does_unpin_none (h : TwoL n w p q F G s s) (hn : n ≤ w.heap.size) (hp : PinsLe s 1152921504606846975) (k : Int) (hk : Num k) (hh : s.has k = false) (hx : s.idx k = -1) :
    Calls Try.prog 10 #[.pointer (some ⟨p, 0, none⟩), .pointer (some ⟨q, 0, none⟩), .agg #[.int .i64 5, .int .i64 k]] w (DoesL n w p q (s.unpin k).1) := by
  have H := Lib.hid h
  have HN := Lib.hid hn
  have hok := h.new.ok
  have hE := LU.unpin_none hh
  have HE := Lib.hid hE
  have HAt := Lib.hid (fun W (hb : Below w.heap.size w W) => ref_at (h.below hb).ref k)
  rw [hx] at HAt
  have HD := Lib.hid (fun W (F G : Nat → Prop) (h : TwoL n W p q F G s s) => at_unpin h.new (fun x hx => Nat.le_succ_of_le (hp x hx)) k hk)
  rw [hE] at HD
  clear h hE hx hh hok
  obtain ⟨wA, hwA⟩ : ∃ wA : World, wA = w.alloc (.cells #[.int .i64 5, .int .i64 k] 34) := ⟨_, rfl⟩
  have hblk : Blk wA w.heap.size 34 #[.int .i64 5, .int .i64 k] := by rw [hwA]; exact heap_alloc_new _ _
  have HBA : Hid (Below w.heap.size w wA) := Lib.hid (by rw [hwA]; exact (Below.refl _ _).alloc (Nat.le_refl _) _)
  have hsz : wA.heap.size = w.heap.size + 1 := by rw [hwA]; simp
  have a0 : wA.cell? ⟨w.heap.size, 0, none⟩ = some (.int .i64 5) := by rw [hblk.cell]; rfl
  have a1 : wA.cell? ⟨w.heap.size, 1, none⟩ = some (.int .i64 k) := by rw [hblk.cell]; rfl
  have HTA := Lib.hid (H.out.below HBA.out)
  have HBn : Hid (Below n w wA) := Lib.hid (HBA.out.mono hn)
  have HNA : Hid (n ≤ wA.heap.size) := Lib.hid (by omega)
  go_enter Try.func10, Try.ntmps10
  go_upto_region 16 with (go_at_call 12; refine (HAt.out _ ((Below.refl _ _).alloc (Nat.le_refl _) _)).mono ?_; rintro e w1 ⟨rfl, rfl⟩)
  rw [← hwA]
  clear hwA hblk
  go_wp2_with (go_at_call 23; refine (HD.out _ _ _ HTA.out).mono ?_; rintro e w1 ⟨rfl, hd1, ho1⟩; have HFin := Lib.hid (does_end HTA.out HBn.out HNA.out hd1 ho1); clear hd1 ho1)
  go_ret
  rw [HE.out]
  exact ⟨rfl, HFin.out⟩
set_option maxRecDepth 100000 in
set_option maxHeartbeats 4000000 in
theorem does_unpin_at (h : TwoL n w p q F G s s) (hn : n ≤ w.heap.size) (i : Nat) (hi : i < s.items.length) (hp : PinsLe s 1152921504606846975) (hk : Num s.items[i].key) (hq : 0 < s.items[i].pins) :
    Calls Try.prog 10 #[.pointer (some ⟨p, 0, none⟩), .pointer (some ⟨q, 0, none⟩), .agg #[.int .i64 5, .int .i64 s.items[i].key]] w (DoesL n w p q (s.unpin s.items[i].key).1) := by
  have H := Lib.hid h
  have HN := Lib.hid hn
  have hok := h.new.ok
  have hE := (LU.unpin_at hok hi).trans (if_pos hq)
  have hidx : s.idx s.items[i].key = i := LU.idx_some hi rfl fun j hj e => List.pairwise_iff_getElem.1 (LU.pair_ne hok) j i (by omega) hi hj e
  have HAt := Lib.hid (fun W (hb : Below w.heap.size w W) => ref_at (h.below hb).ref s.items[i].key)
  rw [hidx] at HAt
  have HD := Lib.hid (fun W (F G : Nat → Prop) (t : LU) (h : TwoL n W p q F G s t) => at_unpin h.new (fun x hx => Nat.le_succ_of_le (hp x hx)) _ hk)
  rw [hE] at HD
  rw [hE]
  have hi0 : (0 : Int) ≤ (i : Int) := by omega
  have hii : (i : Int) < (s.items.length : Int) := by omega
  obtain ⟨wA, hwA⟩ : ∃ wA : World, wA = w.alloc (.cells #[.int .i64 5, .int .i64 s.items[i].key] 34) := ⟨_, rfl⟩
  have hblk : Blk wA w.heap.size 34 #[.int .i64 5, .int .i64 s.items[i].key] := by rw [hwA]; exact heap_alloc_new _ _
  have HBA : Hid (Below w.heap.size w wA) := Lib.hid (by rw [hwA]; exact (Below.refl _ _).alloc (Nat.le_refl _) _)
  have hsz : wA.heap.size = w.heap.size + 1 := by rw [hwA]; simp
  have a0 : wA.cell? ⟨w.heap.size, 0, none⟩ = some (.int .i64 5) := by rw [hblk.cell]; rfl
  have a1 : wA.cell? ⟨w.heap.size, 1, none⟩ = some (.int .i64 s.items[i].key) := by rw [hblk.cell]; rfl
  have HTA := Lib.hid (H.out.below HBA.out)
  have HBn : Hid (Below n w wA) := Lib.hid (HBA.out.mono hn)
  have HNA : Hid (n ≤ wA.heap.size) := Lib.hid (by omega)
  obtain ⟨v, hR⟩ := HTA.out.ref
  obtain ⟨g, cap, hv, hgG, hgw, hlc, hcm, hc, hfz⟩ := it_cells hR.row (by omega)
  obtain ⟨-, x1, x2⟩ := hc i hi
  subst hv
  have c1 := hR.cells.2
  have fz := hfz (i * 3 + 1)
  unfold maxLen at hcm
  have HR := Lib.hid hR
  have hgn : w.heap.size ≠ g := fun e => by have := (H.out.gin g hgG).2; omega
  have hpi := hp _ (List.getElem_mem hi)
  have hpb : (s.items[i].pins : Int) ≤ 1152921504606846976 := by omega
  have hq0 : (0 : Int) < (s.items[i].pins : Int) := by omega
  have HSet : Hid (TwoL n (wA.setCell ⟨g, i * 3 + 1, none⟩ (.int .i64 ((s.items[i].pins : Int) - 1))) p q F G s { s with items := s.items.set i { s.items[i] with pins := s.items[i].pins - 1 } } ∧ Below n w (wA.setCell ⟨g, i * 3 + 1, none⟩ (.int .i64 ((s.items[i].pins : Int) - 1))) ∧ n ≤ (wA.setCell ⟨g, i * 3 + 1, none⟩ (.int .i64 ((s.items[i].pins : Int) - 1))).heap.size) := Lib.hid (by
    have hs := HR.out.setItem i hi 1 (by decide) (.int .i64 ((s.items[i].pins : Int) - 1)) { s.items[i] with pins := s.items[i].pins - 1 } (by show [_, _, _] = _; rw [Int.natCast_sub hq]; rfl) rfl
    exact ⟨HTA.out.refSet hs.1 hs.2, HBn.out.trans (hs.2.below (fun k hk => (H.out.gin k hk).1) HNA.out), Nat.le_trans HNA.out hs.2.size⟩)
  have y1 : (wA.setCell ⟨g, i * 3 + 1, none⟩ (.int .i64 ((s.items[i].pins : Int) - 1))).cell? ⟨w.heap.size, 1, none⟩ = some (.int .i64 s.items[i].key) := (cell_far _ _ (fun e => absurd e.symm hgn)).trans a1
  have y0 : (wA.setCell ⟨g, i * 3 + 1, none⟩ (.int .i64 ((s.items[i].pins : Int) - 1))).cell? ⟨w.heap.size, 0, none⟩ = some (.int .i64 5) := (cell_far _ _ (fun e => absurd e.symm hgn)).trans a0
  clear h hE hidx hok hc hfz hR
  generalize hX : s.items[i] = X at *
  go_enter Try.func10, Try.ntmps10
  go_upto_region 16 with (go_at_call 12; refine (HAt.out _ ((Below.refl _ _).alloc (Nat.le_refl _) _)).mono ?_; rintro e w1 ⟨rfl, rfl⟩)
  rw [← hwA]
  clear hwA hblk
  go_wp2_with (go_at_call 23; refine (HD.out _ _ _ _ HSet.out.1).mono ?_; rintro e w1 ⟨rfl, hd1, ho1⟩; have HFin := Lib.hid (does_end HSet.out.1 HSet.out.2.1 HSet.out.2.2 hd1 ho1); clear hd1 ho1)
  go_ret
  exact ⟨rfl, HFin.out⟩
set_option maxRecDepth 100000 in
set_option maxHeartbeats 4000000 in
theorem does_unpin_zero (h : TwoL n w p q F G s s) (hn : n ≤ w.heap.size) (i : Nat) (hi : i < s.items.length) (hp : PinsLe s 1152921504606846975) (hk : Num s.items[i].key) (hq : ¬ 0 < s.items[i].pins) :
    Calls Try.prog 10 #[.pointer (some ⟨p, 0, none⟩), .pointer (some ⟨q, 0, none⟩), .agg #[.int .i64 5, .int .i64 s.items[i].key]] w (DoesL n w p q (s.unpin s.items[i].key).1) := by
  have H := Lib.hid h
  have HN := Lib.hid hn
  have hok := h.new.ok
  have hE := (LU.unpin_at hok hi).trans (if_neg hq)
  have hidx : s.idx s.items[i].key = i := LU.idx_some hi rfl fun j hj e => List.pairwise_iff_getElem.1 (LU.pair_ne hok) j i (by omega) hi hj e
  have HAt := Lib.hid (fun W (hb : Below w.heap.size w W) => ref_at (h.below hb).ref s.items[i].key)
  rw [hidx] at HAt
  have HD := Lib.hid (fun W (F G : Nat → Prop) (t : LU) (h : TwoL n W p q F G s t) => at_unpin h.new (fun x hx => Nat.le_succ_of_le (hp x hx)) _ hk)
  rw [hE] at HD
  rw [hE]
  have hi0 : (0 : Int) ≤ (i : Int) := by omega
  have hii : (i : Int) < (s.items.length : Int) := by omega
  obtain ⟨wA, hwA⟩ : ∃ wA : World, wA = w.alloc (.cells #[.int .i64 5, .int .i64 s.items[i].key] 34) := ⟨_, rfl⟩
  have hblk : Blk wA w.heap.size 34 #[.int .i64 5, .int .i64 s.items[i].key] := by rw [hwA]; exact heap_alloc_new _ _
  have HBA : Hid (Below w.heap.size w wA) := Lib.hid (by rw [hwA]; exact (Below.refl _ _).alloc (Nat.le_refl _) _)
  have hsz : wA.heap.size = w.heap.size + 1 := by rw [hwA]; simp
  have a0 : wA.cell? ⟨w.heap.size, 0, none⟩ = some (.int .i64 5) := by rw [hblk.cell]; rfl
  have a1 : wA.cell? ⟨w.heap.size, 1, none⟩ = some (.int .i64 s.items[i].key) := by rw [hblk.cell]; rfl
  have HTA := Lib.hid (H.out.below HBA.out)
  have HBn : Hid (Below n w wA) := Lib.hid (HBA.out.mono hn)
  have HNA : Hid (n ≤ wA.heap.size) := Lib.hid (by omega)
  obtain ⟨v, hR⟩ := HTA.out.ref
  obtain ⟨g, cap, hv, hgG, hgw, hlc, hcm, hc, hfz⟩ := it_cells hR.row (by omega)
  obtain ⟨-, x1, x2⟩ := hc i hi
  subst hv
  have c1 := hR.cells.2
  have fz := hfz (i * 3 + 1)
  unfold maxLen at hcm
  have HR := Lib.hid hR
  have hgn : w.heap.size ≠ g := fun e => by have := (H.out.gin g hgG).2; omega
  have hq0 : (s.items[i].pins : Int) = 0 := by omega
  rw [hq0] at x1
  clear h hE hidx hok hc hfz hR
  generalize hX : s.items[i] = X at *
  go_enter Try.func10, Try.ntmps10
  go_upto_region 16 with (go_at_call 12; refine (HAt.out _ ((Below.refl _ _).alloc (Nat.le_refl _) _)).mono ?_; rintro e w1 ⟨rfl, rfl⟩)
  rw [← hwA]
  clear hwA hblk
  go_wp2_with (go_at_call 23; refine (HD.out _ _ _ _ HTA.out).mono ?_; rintro e w1 ⟨rfl, hd1, ho1⟩; have HFin := Lib.hid (does_end HTA.out HBn.out HNA.out hd1 ho1); clear hd1 ho1)
  go_ret
  exact ⟨rfl, HFin.out⟩
set_option maxRecDepth 100000 in
set_option maxHeartbeats 4000000 in
theorem does_mark6_none (h : TwoL n w p q F G s s) (hn : n ≤ w.heap.size) (k : Int) (hk : Num k) (hh : s.has k = false) (hx : s.idx k = -1) :
    Calls Try.prog 10 #[.pointer (some ⟨p, 0, none⟩), .pointer (some ⟨q, 0, none⟩), .agg #[.int .i64 6, .int .i64 k]] w (DoesL n w p q (s.mark k true).1) := by
  have H := Lib.hid h
  have HN := Lib.hid hn
  have hok := h.new.ok
  have hE := LU.mark_none hh true
  have HE := Lib.hid hE
  have HAt := Lib.hid (fun W (hb : Below w.heap.size w W) => ref_at (h.below hb).ref k)
  rw [hx] at HAt
  have HD := Lib.hid (fun W (F G : Nat → Prop) (h : TwoL n W p q F G s s) => at_mark h.new k true hk)
  rw [hE] at HD
  clear h hE hx hh hok
  obtain ⟨wA, hwA⟩ : ∃ wA : World, wA = w.alloc (.cells #[.int .i64 6, .int .i64 k] 34) := ⟨_, rfl⟩
  have hblk : Blk wA w.heap.size 34 #[.int .i64 6, .int .i64 k] := by rw [hwA]; exact heap_alloc_new _ _
  have HBA : Hid (Below w.heap.size w wA) := Lib.hid (by rw [hwA]; exact (Below.refl _ _).alloc (Nat.le_refl _) _)
  have hsz : wA.heap.size = w.heap.size + 1 := by rw [hwA]; simp
  have a0 : wA.cell? ⟨w.heap.size, 0, none⟩ = some (.int .i64 6) := by rw [hblk.cell]; rfl
  have a1 : wA.cell? ⟨w.heap.size, 1, none⟩ = some (.int .i64 k) := by rw [hblk.cell]; rfl
  have HTA := Lib.hid (H.out.below HBA.out)
  have HBn : Hid (Below n w wA) := Lib.hid (HBA.out.mono hn)
  have HNA : Hid (n ≤ wA.heap.size) := Lib.hid (by omega)
  go_enter Try.func10, Try.ntmps10
  go_upto_region 22 with (go_at_call 12; refine (HAt.out _ ((Below.refl _ _).alloc (Nat.le_refl _) _)).mono ?_; rintro e w1 ⟨rfl, rfl⟩)
  rw [← hwA]
  clear hwA hblk
  go_wp2_with (go_at_call 24; refine (HD.out _ _ _ HTA.out).mono ?_; rintro e w1 ⟨rfl, hd1, ho1⟩; have HFin := Lib.hid (does_end HTA.out HBn.out HNA.out hd1 ho1); clear hd1 ho1)
  go_ret
  rw [HE.out]
  exact ⟨rfl, HFin.out⟩
set_option maxRecDepth 100000 in
set_option maxHeartbeats 4000000 in
theorem does_mark6_at (h : TwoL n w p q F G s s) (hn : n ≤ w.heap.size) (i : Nat) (hi : i < s.items.length) (hk : Num s.items[i].key) :
    Calls Try.prog 10 #[.pointer (some ⟨p, 0, none⟩), .pointer (some ⟨q, 0, none⟩), .agg #[.int .i64 6, .int .i64 s.items[i].key]] w (DoesL n w p q (s.mark s.items[i].key true).1) := by
  have H := Lib.hid h
  have HN := Lib.hid hn
  have hok := h.new.ok
  have hE := LU.mark_at hok hi true
  have hidx : s.idx s.items[i].key = i := LU.idx_some hi rfl fun j hj e => List.pairwise_iff_getElem.1 (LU.pair_ne hok) j i (by omega) hi hj e
  have HAt := Lib.hid (fun W (hb : Below w.heap.size w W) => ref_at (h.below hb).ref s.items[i].key)
  rw [hidx] at HAt
  have HD := Lib.hid (fun W (F G : Nat → Prop) (t : LU) (h : TwoL n W p q F G s t) => at_mark h.new _ true hk)
  rw [hE] at HD
  rw [hE]
  have hi0 : (0 : Int) ≤ (i : Int) := by omega
  have hii : (i : Int) < (s.items.length : Int) := by omega
  obtain ⟨wA, hwA⟩ : ∃ wA : World, wA = w.alloc (.cells #[.int .i64 6, .int .i64 s.items[i].key] 34) := ⟨_, rfl⟩
  have hblk : Blk wA w.heap.size 34 #[.int .i64 6, .int .i64 s.items[i].key] := by rw [hwA]; exact heap_alloc_new _ _
  have HBA : Hid (Below w.heap.size w wA) := Lib.hid (by rw [hwA]; exact (Below.refl _ _).alloc (Nat.le_refl _) _)
  have hsz : wA.heap.size = w.heap.size + 1 := by rw [hwA]; simp
  have a0 : wA.cell? ⟨w.heap.size, 0, none⟩ = some (.int .i64 6) := by rw [hblk.cell]; rfl
  have a1 : wA.cell? ⟨w.heap.size, 1, none⟩ = some (.int .i64 s.items[i].key) := by rw [hblk.cell]; rfl
  have HTA := Lib.hid (H.out.below HBA.out)
  have HBn : Hid (Below n w wA) := Lib.hid (HBA.out.mono hn)
  have HNA : Hid (n ≤ wA.heap.size) := Lib.hid (by omega)
  obtain ⟨v, hR⟩ := HTA.out.ref
  obtain ⟨g, cap, hv, hgG, hgw, hlc, hcm, hc, hfz⟩ := it_cells hR.row (by omega)
  obtain ⟨-, x1, x2⟩ := hc i hi
  subst hv
  have c1 := hR.cells.2
  have fz := hfz (i * 3 + 2)
  unfold maxLen at hcm
  have HR := Lib.hid (hR.only ((Only.refl (fun _ => False) wA).drew) fun _ _ => id)
  have hgn : w.heap.size ≠ g := fun e => by have := (H.out.gin g hgG).2; omega
  have HSet : Hid (TwoL n (wA.drew.setCell ⟨g, i * 3 + 2, none⟩ (.bool true)) p q F G s { s with items := s.items.set i { s.items[i] with marked := true } } ∧ Below n w (wA.drew.setCell ⟨g, i * 3 + 2, none⟩ (.bool true)) ∧ n ≤ (wA.drew.setCell ⟨g, i * 3 + 2, none⟩ (.bool true)).heap.size) := Lib.hid (by
    have hs := HR.out.setItem i hi 2 (by decide) (.bool true) { s.items[i] with marked := true } rfl rfl
    exact ⟨(HTA.out.below (Below.refl _ wA).drew).refSet hs.1 hs.2, HBn.out.drew.trans (hs.2.below (fun k hk => (H.out.gin k hk).1) HNA.out), Nat.le_trans HNA.out hs.2.size⟩)
  have y1 : (wA.drew.setCell ⟨g, i * 3 + 2, none⟩ (.bool true)).cell? ⟨w.heap.size, 1, none⟩ = some (.int .i64 s.items[i].key) := (cell_far _ _ (fun e => absurd e.symm hgn)).trans a1
  have y0 : (wA.drew.setCell ⟨g, i * 3 + 2, none⟩ (.bool true)).cell? ⟨w.heap.size, 0, none⟩ = some (.int .i64 6) := (cell_far _ _ (fun e => absurd e.symm hgn)).trans a0
  clear h hE hidx hok hc hfz hR
  generalize hX : s.items[i] = X at *
  go_enter Try.func10, Try.ntmps10
  go_upto_region 22 with (go_at_call 12; refine (HAt.out _ ((Below.refl _ _).alloc (Nat.le_refl _) _)).mono ?_; rintro e w1 ⟨rfl, rfl⟩)
  rw [← hwA]
  clear hwA hblk
  go_upto_region 23 with fail
  go_region
  all_goals go_wp2_with (go_at_call 24; refine (HD.out _ _ _ _ HSet.out.1).mono ?_; rintro e w1 ⟨rfl, hd1, ho1⟩; have HFin := Lib.hid (does_end HSet.out.1 HSet.out.2.1 HSet.out.2.2 hd1 ho1); clear hd1 ho1)
  all_goals
    go_ret
    exact ⟨rfl, HFin.out⟩
set_option maxRecDepth 100000 in
set_option maxHeartbeats 4000000 in
theorem does_mark7_none (h : TwoL n w p q F G s s) (hn : n ≤ w.heap.size) (k : Int) (hk : Num k) (hh : s.has k = false) (hx : s.idx k = -1) :
    Calls Try.prog 10 #[.pointer (some ⟨p, 0, none⟩), .pointer (some ⟨q, 0, none⟩), .agg #[.int .i64 7, .int .i64 k]] w (DoesL n w p q (s.mark k false).1) := by
  have H := Lib.hid h
  have HN := Lib.hid hn
  have hok := h.new.ok
  have hE := LU.mark_none hh false
  have HE := Lib.hid hE
  have HAt := Lib.hid (fun W (hb : Below w.heap.size w W) => ref_at (h.below hb).ref k)
  rw [hx] at HAt
  have HD := Lib.hid (fun W (F G : Nat → Prop) (h : TwoL n W p q F G s s) => at_mark h.new k false hk)
  rw [hE] at HD
  clear h hE hx hh hok
  obtain ⟨wA, hwA⟩ : ∃ wA : World, wA = w.alloc (.cells #[.int .i64 7, .int .i64 k] 34) := ⟨_, rfl⟩
  have hblk : Blk wA w.heap.size 34 #[.int .i64 7, .int .i64 k] := by rw [hwA]; exact heap_alloc_new _ _
  have HBA : Hid (Below w.heap.size w wA) := Lib.hid (by rw [hwA]; exact (Below.refl _ _).alloc (Nat.le_refl _) _)
  have hsz : wA.heap.size = w.heap.size + 1 := by rw [hwA]; simp
  have a0 : wA.cell? ⟨w.heap.size, 0, none⟩ = some (.int .i64 7) := by rw [hblk.cell]; rfl
  have a1 : wA.cell? ⟨w.heap.size, 1, none⟩ = some (.int .i64 k) := by rw [hblk.cell]; rfl
  have HTA := Lib.hid (H.out.below HBA.out)
  have HBn : Hid (Below n w wA) := Lib.hid (HBA.out.mono hn)
  have HNA : Hid (n ≤ wA.heap.size) := Lib.hid (by omega)
  go_enter Try.func10, Try.ntmps10
  go_upto_region 22 with (go_at_call 12; refine (HAt.out _ ((Below.refl _ _).alloc (Nat.le_refl _) _)).mono ?_; rintro e w1 ⟨rfl, rfl⟩)
  rw [← hwA]
  clear hwA hblk
  go_wp2_with (go_at_call 24; refine (HD.out _ _ _ HTA.out).mono ?_; rintro e w1 ⟨rfl, hd1, ho1⟩; have HFin := Lib.hid (does_end HTA.out HBn.out HNA.out hd1 ho1); clear hd1 ho1)
  go_ret
  rw [HE.out]
  exact ⟨rfl, HFin.out⟩
set_option maxRecDepth 100000 in
set_option maxHeartbeats 4000000 in
theorem does_mark7_at (h : TwoL n w p q F G s s) (hn : n ≤ w.heap.size) (i : Nat) (hi : i < s.items.length) (hk : Num s.items[i].key) :
    Calls Try.prog 10 #[.pointer (some ⟨p, 0, none⟩), .pointer (some ⟨q, 0, none⟩), .agg #[.int .i64 7, .int .i64 s.items[i].key]] w (DoesL n w p q (s.mark s.items[i].key false).1) := by
  have H := Lib.hid h
  have HN := Lib.hid hn
  have hok := h.new.ok
  have hE := LU.mark_at hok hi false
  have hidx : s.idx s.items[i].key = i := LU.idx_some hi rfl fun j hj e => List.pairwise_iff_getElem.1 (LU.pair_ne hok) j i (by omega) hi hj e
  have HAt := Lib.hid (fun W (hb : Below w.heap.size w W) => ref_at (h.below hb).ref s.items[i].key)
  rw [hidx] at HAt
  have HD := Lib.hid (fun W (F G : Nat → Prop) (t : LU) (h : TwoL n W p q F G s t) => at_mark h.new _ false hk)
  rw [hE] at HD
  rw [hE]
  have hi0 : (0 : Int) ≤ (i : Int) := by omega
  have hii : (i : Int) < (s.items.length : Int) := by omega
  obtain ⟨wA, hwA⟩ : ∃ wA : World, wA = w.alloc (.cells #[.int .i64 7, .int .i64 s.items[i].key] 34) := ⟨_, rfl⟩
  have hblk : Blk wA w.heap.size 34 #[.int .i64 7, .int .i64 s.items[i].key] := by rw [hwA]; exact heap_alloc_new _ _
  have HBA : Hid (Below w.heap.size w wA) := Lib.hid (by rw [hwA]; exact (Below.refl _ _).alloc (Nat.le_refl _) _)
  have hsz : wA.heap.size = w.heap.size + 1 := by rw [hwA]; simp
  have a0 : wA.cell? ⟨w.heap.size, 0, none⟩ = some (.int .i64 7) := by rw [hblk.cell]; rfl
  have a1 : wA.cell? ⟨w.heap.size, 1, none⟩ = some (.int .i64 s.items[i].key) := by rw [hblk.cell]; rfl
  have HTA := Lib.hid (H.out.below HBA.out)
  have HBn : Hid (Below n w wA) := Lib.hid (HBA.out.mono hn)
  have HNA : Hid (n ≤ wA.heap.size) := Lib.hid (by omega)
  obtain ⟨v, hR⟩ := HTA.out.ref
  obtain ⟨g, cap, hv, hgG, hgw, hlc, hcm, hc, hfz⟩ := it_cells hR.row (by omega)
  obtain ⟨-, x1, x2⟩ := hc i hi
  subst hv
  have c1 := hR.cells.2
  have fz := hfz (i * 3 + 2)
  unfold maxLen at hcm
  have HR := Lib.hid (hR.only ((Only.refl (fun _ => False) wA).drew) fun _ _ => id)
  have hgn : w.heap.size ≠ g := fun e => by have := (H.out.gin g hgG).2; omega
  have HSet : Hid (TwoL n (wA.drew.setCell ⟨g, i * 3 + 2, none⟩ (.bool false)) p q F G s { s with items := s.items.set i { s.items[i] with marked := false } } ∧ Below n w (wA.drew.setCell ⟨g, i * 3 + 2, none⟩ (.bool false)) ∧ n ≤ (wA.drew.setCell ⟨g, i * 3 + 2, none⟩ (.bool false)).heap.size) := Lib.hid (by
    have hs := HR.out.setItem i hi 2 (by decide) (.bool false) { s.items[i] with marked := false } rfl rfl
    exact ⟨(HTA.out.below (Below.refl _ wA).drew).refSet hs.1 hs.2, HBn.out.drew.trans (hs.2.below (fun k hk => (H.out.gin k hk).1) HNA.out), Nat.le_trans HNA.out hs.2.size⟩)
  have y1 : (wA.drew.setCell ⟨g, i * 3 + 2, none⟩ (.bool false)).cell? ⟨w.heap.size, 1, none⟩ = some (.int .i64 s.items[i].key) := (cell_far _ _ (fun e => absurd e.symm hgn)).trans a1
  have y0 : (wA.drew.setCell ⟨g, i * 3 + 2, none⟩ (.bool false)).cell? ⟨w.heap.size, 0, none⟩ = some (.int .i64 7) := (cell_far _ _ (fun e => absurd e.symm hgn)).trans a0
  clear h hE hidx hok hc hfz hR
  generalize hX : s.items[i] = X at *
  go_enter Try.func10, Try.ntmps10
  go_upto_region 22 with (go_at_call 12; refine (HAt.out _ ((Below.refl _ _).alloc (Nat.le_refl _) _)).mono ?_; rintro e w1 ⟨rfl, rfl⟩)
  rw [← hwA]
  clear hwA hblk
  go_upto_region 23 with fail
  go_region
  all_goals go_wp2_with (go_at_call 24; refine (HD.out _ _ _ _ HSet.out.1).mono ?_; rintro e w1 ⟨rfl, hd1, ho1⟩; have HFin := Lib.hid (does_end HSet.out.1 HSet.out.2.1 HSet.out.2.2 hd1 ho1); clear hd1 ho1)
  all_goals
    go_ret
    exact ⟨rfl, HFin.out⟩
end
end Go.Proofs.Ytopdfhedifcalaa
