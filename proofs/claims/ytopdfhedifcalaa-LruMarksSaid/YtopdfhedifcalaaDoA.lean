/- Both lists in memory, apart; contract of octavolaw06.does, first part: Use, Add, Drop. Conditions: those that each theorem names. -/
import Derived.Test.YtopdfhedifcalaaLrL
import Derived.Test.YtopdfhedifcalaaOpenL
import Derived.Deep.RegionHeld3
namespace Go.Proofs.Ytopdfhedifcalaa
open Go.RowKit
attribute [local go_sem ↓] Go.wp_at_zero Go.wp_at_succ

/-- The landed list at p, the document's at q, apart; all their blocks from n on. -/
structure TwoL (n : Nat) (w : World) (p q : Nat) (F G : Nat → Prop) (s t : LU) : Prop where
  new : LruAt w F p s
  ref : RefAtL w G q t
  off : ∀ k, F k → ¬ G k
  fin : ∀ k, F k → n ≤ k ∧ k < w.heap.size
  gin : ∀ k, G k → n ≤ k ∧ k < w.heap.size
/-- Behind does. -/
def DoesL (n : Nat) (w : World) (p q : Nat) (s : LU) (e : Ending) (w' : World) : Prop := e = .returned (.bool true) ∧ (∃ F G, TwoL n w' p q F G s s) ∧ Below n w w' ∧ n ≤ w'.heap.size
section
variable {n p q : Nat} {w w' : World} {F G : Nat → Prop} {s s' t t' : LU} {v : Value} {e : Ending}
theorem TwoL.below (h : TwoL n w p q F G s t) (hb : Below w.heap.size w w') : TwoL n w' p q F G s t :=
  ⟨h.new.below hb, h.ref.below hb, h.off, fun k hk => ⟨(h.fin k hk).1, Nat.lt_of_lt_of_le (h.fin k hk).2 hb.size⟩, fun k hk => ⟨(h.gin k hk).1, Nat.lt_of_lt_of_le (h.gin k hk).2 hb.size⟩⟩
theorem TwoL.newOp (h : TwoL n w p q F G s t) (hn : n ≤ w.heap.size) (hd : LruAt w' (Gr F w w') p s') (ho : Only F w w') : TwoL n w' p q (Gr F w w') G s' t :=
  ⟨hd, h.ref.only ho fun k hk hf => h.off k hf hk, fun k hk hg => hk.elim (fun h1 => h.off k h1 hg) fun h1 => by have := (h.gin k hg).2; omega,
    gr_in h.fin ho.size hn, fun k hk => ⟨(h.gin k hk).1, Nat.lt_of_lt_of_le (h.gin k hk).2 ho.size⟩⟩
theorem TwoL.refOp (h : TwoL n w p q F G s t) (hn : n ≤ w.heap.size) (hd : RefAtL w' (Gr G w w') q t') (ho : Only G w w') : TwoL n w' p q F (Gr G w w') s t' :=
  ⟨h.new.only ho h.off, hd, fun k hk hg => hg.elim (fun h1 => h.off k hk h1) fun h1 => by have := (h.fin k hk).2; omega,
    fun k hk => ⟨(h.fin k hk).1, Nat.lt_of_lt_of_le (h.fin k hk).2 ho.size⟩, gr_in h.gin ho.size hn⟩
/-- The document's list has turned, in its blocks alone. -/
theorem TwoL.refSet (h : TwoL n w p q F G s t) (hd : RefAtL w' G q t') (ho : Only G w w') : TwoL n w' p q F G s t' :=
  ⟨h.new.only ho h.off, hd, h.off, fun k hk => ⟨(h.fin k hk).1, Nat.lt_of_lt_of_le (h.fin k hk).2 ho.size⟩, fun k hk => ⟨(h.gin k hk).1, Nat.lt_of_lt_of_le (h.gin k hk).2 ho.size⟩⟩
/-- Behind a call of the landed list, then one of the document's. -/
theorem does_fin {w0 wA w1 w1' w2 : World} (h : TwoL n wA p q F G s s) (hn : n ≤ w0.heap.size) (hA : Below w0.heap.size w0 wA) (hd : LruAt w1 (Gr F wA w1) p s') (ho1 : Only F wA w1) (hb1 : Below w1.heap.size w1 w1') (hr : RefAtL w2 (Gr G w1' w2) q s') (ho2 : Only G w1' w2) :
    (∃ F G, TwoL n w2 p q F G s' s') ∧ Below n w0 w2 ∧ n ≤ w2.heap.size := by
  have s0 := hA.size
  have s1 := ho1.size
  have s2 := hb1.size
  have s3 := ho2.size
  have t1 := (h.newOp (by omega) hd ho1).below hb1
  have t2 := t1.refOp (by omega) hr ho2
  refine ⟨⟨_, _, t2⟩, ?_, by omega⟩
  have b1 : Below n wA w1 := ho1.below (fun k hk => (h.fin k hk).1) (by omega)
  have b2 : Below n w1' w2 := ho2.below (fun k hk => (h.gin k hk).1) (by omega)
  exact (((hA.mono hn).trans b1).trans (hb1.mono (by omega))).trans b2
end

section
variable {n p q : Nat} {w : World} {F G : Nat → Prop} {s : LU}
set_option maxRecDepth 100000 in
set_option maxHeartbeats 4000000 in
theorem does_use (h : TwoL n w p q F G s s) (hn : n ≤ w.heap.size) (k : Int) (hk : Num k) :
    Calls Try.prog 10 #[.pointer (some ⟨p, 0, none⟩), .pointer (some ⟨q, 0, none⟩), .agg #[.int .i64 1, .int .i64 k]] w (DoesL n w p q (s.use k).1) := by
  have H := Lib.hid h
  have HN := Lib.hid hn
  have HAt := Lib.hid (fun W (hb : Below w.heap.size w W) => ref_at (h.below hb).ref k)
  have HD := Lib.hid (fun W (hb : Below w.heap.size w W) => at_use (h.below hb).new k hk)
  have HW := Lib.hid (fun W (G : Nat → Prop) (hr : RefAtL W G q s) => ref_use hr k)
  clear h hk
  generalize (s.use k).2 = a at *
  obtain ⟨wA, hwA⟩ : ∃ wA : World, wA = w.alloc (.cells #[.int .i64 1, .int .i64 k] 34) := ⟨_, rfl⟩
  have hblk : Blk wA w.heap.size 34 #[.int .i64 1, .int .i64 k] := by rw [hwA]; exact heap_alloc_new _ _
  have HBA : Hid (Below w.heap.size w wA) := Lib.hid (by rw [hwA]; exact (Below.refl _ _).alloc (Nat.le_refl _) _)
  have hsz : wA.heap.size = w.heap.size + 1 := by rw [hwA]; simp
  have a1 : wA.cell? ⟨w.heap.size, 1, none⟩ = some (.int .i64 k) := by rw [hblk.cell]; rfl
  have hlt : w.heap.size < wA.heap.size := by omega
  go_enter Try.func10, Try.ntmps10
  go_upto_region 4 with (go_at_call 12; refine (HAt.out _ ((Below.refl _ _).alloc (Nat.le_refl _) _)).mono ?_; rintro e w1 ⟨rfl, rfl⟩)
  rw [← hwA]
  clear hwA hblk
  have BA := Lib.hid HBA.out.drew
  go_region_held3 (fun w' => w'.cell? ⟨w.heap.size, 1, none⟩ = some (.int .i64 k))
    (first
      | exact a1
      | exact b1'
      | exact b1
      | go_keep)
    (first
      | (go_at_call 25; refine (HW.out _ _ HT1.out.ref).mono ?_; rintro e w2 ⟨rfl, hr2, ho2⟩; have b1' := (ho2.cell (p := ⟨w.heap.size, 1, none⟩) hl1 (fun hf => by have := (H.out.gin _ hf).2; simp at this)).trans b1; have HFin := Lib.hid (does_fin (H.out.below BA.out) HN.out BA.out hd1 ho1 (Below.refl _ _) hr2 ho2))
      | (go_at_call 18; refine (HD.out _ BA.out).mono ?_; rintro e w1 ⟨rfl, hd1, ho1⟩; have HT1 := Lib.hid ((H.out.below BA.out).newOp (Nat.le_trans HN.out BA.out.size) hd1 ho1); have hl1 : w.heap.size < w1.heap.size := Nat.lt_of_lt_of_le hlt ho1.size; have b1 := (ho1.cell (p := ⟨w.heap.size, 1, none⟩) hlt (fun hf => by have := (H.out.fin _ hf).2; simp at this)).trans a1)
      | fail)
  all_goals
    clear hd1 ho1 hr2 ho2
    go_wp2_with fail
    go_ret
    exact ⟨rfl, HFin.out⟩
set_option maxRecDepth 100000 in
set_option maxHeartbeats 4000000 in
theorem does_drop (h : TwoL n w p q F G s s) (hn : n ≤ w.heap.size) (k : Int) (hk : Num k) :
    Calls Try.prog 10 #[.pointer (some ⟨p, 0, none⟩), .pointer (some ⟨q, 0, none⟩), .agg #[.int .i64 3, .int .i64 k]] w (DoesL n w p q (s.drop k).1) := by
  have H := Lib.hid h
  have HN := Lib.hid hn
  have HAt := Lib.hid (fun W (hb : Below w.heap.size w W) => ref_at (h.below hb).ref k)
  have HD := Lib.hid (fun W (hb : Below w.heap.size w W) => at_drop (h.below hb).new k hk)
  have HW := Lib.hid (fun W (G : Nat → Prop) (hr : RefAtL W G q s) => ref_drop hr k)
  clear h hk
  generalize (s.drop k).2 = a at *
  obtain ⟨wA, hwA⟩ : ∃ wA : World, wA = w.alloc (.cells #[.int .i64 3, .int .i64 k] 34) := ⟨_, rfl⟩
  have hblk : Blk wA w.heap.size 34 #[.int .i64 3, .int .i64 k] := by rw [hwA]; exact heap_alloc_new _ _
  have HBA : Hid (Below w.heap.size w wA) := Lib.hid (by rw [hwA]; exact (Below.refl _ _).alloc (Nat.le_refl _) _)
  have hsz : wA.heap.size = w.heap.size + 1 := by rw [hwA]; simp
  have a1 : wA.cell? ⟨w.heap.size, 1, none⟩ = some (.int .i64 k) := by rw [hblk.cell]; rfl
  have hlt : w.heap.size < wA.heap.size := by omega
  go_enter Try.func10, Try.ntmps10
  go_upto_region 10 with (go_at_call 12; refine (HAt.out _ ((Below.refl _ _).alloc (Nat.le_refl _) _)).mono ?_; rintro e w1 ⟨rfl, rfl⟩)
  rw [← hwA]
  clear hwA hblk
  have BA := Lib.hid HBA.out.drew
  go_region_held3 (fun w' => w'.cell? ⟨w.heap.size, 1, none⟩ = some (.int .i64 k))
    (first
      | exact a1
      | exact b1'
      | exact b1
      | go_keep)
    (first
      | (go_at_call 27; refine (HW.out _ _ HT1.out.ref).mono ?_; rintro e w2 ⟨rfl, hr2, ho2⟩; have b1' := (ho2.cell (p := ⟨w.heap.size, 1, none⟩) hl1 (fun hf => by have := (H.out.gin _ hf).2; simp at this)).trans b1; have HFin := Lib.hid (does_fin (H.out.below BA.out) HN.out BA.out hd1 ho1 (Below.refl _ _) hr2 ho2))
      | (go_at_call 22; refine (HD.out _ BA.out).mono ?_; rintro e w1 ⟨rfl, hd1, ho1⟩; have HT1 := Lib.hid ((H.out.below BA.out).newOp (Nat.le_trans HN.out BA.out.size) hd1 ho1); have hl1 : w.heap.size < w1.heap.size := Nat.lt_of_lt_of_le hlt ho1.size; have b1 := (ho1.cell (p := ⟨w.heap.size, 1, none⟩) hlt (fun hf => by have := (H.out.fin _ hf).2; simp at this)).trans a1)
      | fail)
  all_goals
    clear hd1 ho1 hr2 ho2
    go_wp2_with fail
    go_ret
    exact ⟨rfl, HFin.out⟩
set_option maxRecDepth 100000 in
set_option maxHeartbeats 4000000 in
theorem does_add (h : TwoL n w p q F G s s) (hn : n ≤ w.heap.size) (k : Int) (hk : Num k) :
    Calls Try.prog 10 #[.pointer (some ⟨p, 0, none⟩), .pointer (some ⟨q, 0, none⟩), .agg #[.int .i64 2, .int .i64 k]] w (DoesL n w p q (s.add k).1) := by
  have H := Lib.hid h
  have HN := Lib.hid hn
  have HAt := Lib.hid (fun W (hb : Below w.heap.size w W) => ref_at (h.below hb).ref k)
  have HD := Lib.hid (fun W (hb : Below w.heap.size w W) => at_add (h.below hb).new k hk)
  have HW := Lib.hid (fun W (G : Nat → Prop) (hr : RefAtL W G q s) => ref_add hr k)
  unfold addV at HD
  unfold addR at HW
  clear h hk
  generalize (s.add k).2.1 = a at *
  generalize (s.add k).2.2.1 = b at *
  generalize ((s.add k).2.2.2 : Int) = c at *
  obtain ⟨wA, hwA⟩ : ∃ wA : World, wA = w.alloc (.cells #[.int .i64 2, .int .i64 k] 34) := ⟨_, rfl⟩
  have hblk : Blk wA w.heap.size 34 #[.int .i64 2, .int .i64 k] := by rw [hwA]; exact heap_alloc_new _ _
  have HBA : Hid (Below w.heap.size w wA) := Lib.hid (by rw [hwA]; exact (Below.refl _ _).alloc (Nat.le_refl _) _)
  have hsz : wA.heap.size = w.heap.size + 1 := by rw [hwA]; simp
  have a1 : wA.cell? ⟨w.heap.size, 1, none⟩ = some (.int .i64 k) := by rw [hblk.cell]; rfl
  have hlt : w.heap.size < wA.heap.size := by omega
  go_enter Try.func10, Try.ntmps10
  go_upto_region 6 with (go_at_call 12; refine (HAt.out _ ((Below.refl _ _).alloc (Nat.le_refl _) _)).mono ?_; rintro e w1 ⟨rfl, rfl⟩)
  rw [← hwA]
  clear hwA hblk
  go_wp2_with (first
    | (go_at_call 26; refine (HW.out _ _ HT1.out.ref).mono ?_; rintro e w2 ⟨rfl, hr2, ho2⟩; have HFin := Lib.hid (does_fin (H.out.below HBA.out) HN.out HBA.out hd1 ho1 (Below.refl _ _) hr2 ho2))
    | (go_at_call 19; refine (HD.out _ HBA.out).mono ?_; rintro e w1 ⟨rfl, hd1, ho1⟩; have HT1 := Lib.hid ((H.out.below HBA.out).newOp (Nat.le_trans HN.out HBA.out.size) hd1 ho1); have hl1 : w.heap.size < w1.heap.size := Nat.lt_of_lt_of_le hlt ho1.size; have b1 := (ho1.cell (p := ⟨w.heap.size, 1, none⟩) hlt (fun hf => by have := (H.out.fin _ hf).2; simp at this)).trans a1))
  clear hd1 ho1 hr2 ho2
  go_ret
  exact ⟨rfl, HFin.out⟩
end
end Go.Proofs.Ytopdfhedifcalaa
