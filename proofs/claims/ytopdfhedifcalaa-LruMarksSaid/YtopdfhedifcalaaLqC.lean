/- Contracts of octavoref06's Use, Drop, Add over the abstract list. Conditions: those that each theorem names. -/
import Derived.Test.YtopdfhedifcalaaLqB
import Derived.RegionTactic
import Derived.Deep.RegionLaw
namespace Go.Proofs.Ytopdfhedifcalaa
open Go.RowKit
attribute [local go_sem ↓] Go.wp_at_zero Go.wp_at_succ

theorem gr_grow {F : Nat → Prop} {w w' w'' : World} (h1 : w.heap.size ≤ w'.heap.size) (h2 : w'.heap.size ≤ w''.heap.size) : ∀ k, Gr (Gr F w w') w' w'' k → Gr F w w'' k := fun k hk => by
  rcases hk with (hk | hk) | hk
  · exact .inl hk
  · exact .inr (by omega)
  · exact .inr (by omega)
theorem LU.Ok.put_out {s : LU} (h : s.Ok) {i : Nat} (hi : i < s.items.length) : LU.Ok { s with items := s.items.eraseIdx i ++ [s.items[i]] } := by
  have := h.use s.items[i].key
  rw [LU.use_at h hi] at this
  exact this
section
variable {w w1 w5 : World} {F : Nat → Prop} {p : Nat} {s : LU} {v v5 : Value}
/-- Behind an append of one item, stored. -/
theorem RefL.pushed (h : RefL w F p v s) (x : It) (hok : LU.Ok (s.put x)) (o : Obj) (ho : w5.ownsRow 0 61 3 v5 (s.items.length + 1) (flat encI s.items ++ encI x)) (hg : (w.alloc o).grownBy w5 v.ownBlock) (hat : v5.ownBlock = v.ownBlock ∨ v5.ownBlock = some (w.heap.size + 1)) :
    RefAtL (w5.setCell ⟨p, 1, none⟩ v5) (Gr F w (w5.setCell ⟨p, 1, none⟩ v5)) p (s.put x) ∧ Only F w (w5.setCell ⟨p, 1, none⟩ v5) := by
  have hne : v.ownBlock ≠ some p := own_blk_ne h.row.own h.blk (by decide)
  have hO5 : Only F w w5 := ((Only.refl F w).alloc o).grown hg fun k hk => .inl (h.row.fp k hk)
  have hsz := hO5.size
  have hb5 : Blk w5 p 31 #[.int .i64 (s.cap : Int), v] := (h.blk.alloc o).grown hg (Ne.symm hne)
  have hlt : ∀ k, v5.ownBlock = some k → k < w5.heap.size := fun k hk => (ho.lt k hk).2
  have hfp : ∀ k, v5.ownBlock = some k → Gr F w (w5.setCell ⟨p, 1, none⟩ v5) k := fun k hk => by
    have hz : (w5.setCell ⟨p, 1, none⟩ v5).heap.size = w5.heap.size := by simp [World.setCell]
    rcases hat with e | e
    · exact .inl (h.row.fp k (e ▸ hk))
    · have := hlt k hk
      rw [hk] at e
      injection e with e
      exact .inr (by rw [hz]; omega)
  have hpk : ∀ k, v5.ownBlock = some k → k ≠ p := fun k hk e => own_blk_ne ho hb5 (by decide) (e ▸ hk)
  have hOp : Only (fun k => k = p) w5 (w5.setCell ⟨p, 1, none⟩ v5) := (Only.refl (fun k => k = p) w5).setCell (p := ⟨p, 1, none⟩) (.inl rfl) v5
  refine ⟨⟨v5, hb5.set_ 1 v5, .inl h.fp, ⟨?_, hfp⟩, hok, h.cap⟩, hO5.setCell (p := ⟨p, 1, none⟩) (.inl h.fp) v5⟩
  have hfl : flat encI (s.put x).items = flat encI s.items ++ encI x := by
    show flat encI (s.items ++ [x]) = _
    rw [flat_append, flat_one]
  rw [hfl, show (s.put x).items.length = s.items.length + 1 from by simp [LU.put]]
  exact own_only ho hOp fun k hk e => hpk k hk e

theorem idx_place (s : LU) (k : Int) : (∃ i, ∃ h : i < s.items.length, s.items[i].key = k ∧ (s.Ok → s.idx k = i)) ∨ (s.has k = false ∧ s.idx k = -1) := by
  rcases LU.place s k with ⟨i, hi, hk⟩ | ⟨h1, h2⟩
  · refine .inl ⟨i, hi, hk, fun ok => LU.idx_some hi hk fun j hj e => ?_⟩
    have hp := List.pairwise_iff_getElem.1 (LU.pair_ne ok) j i (by omega) hi hj
    exact hp (e.trans hk.symm)
  · exact .inr ⟨h1, LU.idx_none h2⟩
set_option maxRecDepth 100000 in
set_option maxHeartbeats 3200000 in
theorem ref_use (h : RefAtL w F p s) (k : Int) :
    Calls Try.prog 25 #[.pointer (some ⟨p, 0, none⟩), .int .i64 k] w (DidL w F p (.bool (s.use k).2) (s.use k).1) := by
  have HAt := Lib.hid (ref_at h k)
  have hok : s.Ok := by obtain ⟨v, h⟩ := h; exact h.ok
  rcases idx_place s k with ⟨i, hi, hk, hx⟩ | ⟨hn, hx⟩
  · subst hk
    rw [hx hok] at HAt
    have hu := LU.use_at hok hi
    have HE := Lib.hid hu
    have HOut := Lib.hid (ref_out h i hi)
    have HOk2 := Lib.hid (hok.put_out hi)
    have hi0 : (0 : Int) ≤ (i : Int) := by omega
    obtain ⟨i0, hi1, hz0, hz1, hz2⟩ := info_parts itinfo
    have hlen : s.items.length ≤ 4096 := by obtain ⟨v, h⟩ := h; exact h.len
    have hel : (s.items.eraseIdx i).length = s.items.length - 1 := List.length_eraseIdx_of_lt hi
    have HEl := Lib.hid hel
    have HLen := Lib.hid hlen
    clear hx hu h hel hlen hok
    generalize s.items[i] = x at *
    unfold itV at HOut
    go_enter Try.func25, Try.ntmps25
    go_wp2_with (first
      | (go_at_call 12; refine HAt.out.mono ?_; rintro e w1 ⟨rfl, rfl⟩)
      | (go_at_call 34; refine HOut.out.mono ?_; rintro e w1 ⟨rfl, hr1, ho1⟩))
    have HO1 := Lib.hid ho1
    have HR1 := Lib.hid hr1
    clear ho1 hr1
    obtain ⟨v1, hr⟩ := HR1.out
    obtain ⟨A, c, hv, hlc, hcm, -⟩ := hr.row.value
    simp only at hv hlc
    have c1 := (World.cell?_alloc_lt w1 (.cells #[.int .i64 x.key, .int .i64 (x.pins : Int), .bool x.marked] 61) ⟨p, 1, none⟩ hr.blk.lt).trans hr.cells.2
    have hB := Blk.new w1 61 #[.int .i64 x.key, .int .i64 (x.pins : Int), .bool x.marked]
    have y0 : (w1.alloc (.cells #[.int .i64 x.key, .int .i64 (x.pins : Int), .bool x.marked] 61)).cell? ⟨w1.heap.size, 0, none⟩ = some (.int .i64 x.key) := (hB.cell 0).trans rfl
    have y1 : (w1.alloc (.cells #[.int .i64 x.key, .int .i64 (x.pins : Int), .bool x.marked] 61)).cell? ⟨w1.heap.size, 1, none⟩ = some (.int .i64 (x.pins : Int)) := (hB.cell 1).trans rfl
    have y2 : (w1.alloc (.cells #[.int .i64 x.key, .int .i64 (x.pins : Int), .bool x.marked] 61)).cell? ⟨w1.heap.size, 2, none⟩ = some (.bool x.marked) := (hB.cell 2).trans rfl
    rw [hv] at c1
    have hw2 : ∃ W : World, W = w1.alloc (.cells #[.int .i64 x.key, .int .i64 (x.pins : Int), .bool x.marked] 61) := ⟨_, rfl⟩
    obtain ⟨W, hW⟩ := hw2
    have hr2 : RefL W (Gr F w w1) p v1 { s with items := s.items.eraseIdx i } := by rw [hW]; exact hr.only ((Only.refl (fun _ => False) w1).alloc _) fun _ _ => id
    have HO2 : Hid (Only F w W) := Lib.hid (by rw [hW]; exact HO1.out.alloc _)
    have hsz : W.heap.size = w1.heap.size + 1 := by rw [hW]; simp
    have hpw := hr2.blk.lt
    have hpf := hr2.blk.frozen 1
    have hp1 := hr.blk.lt
    have hrl : v1.ownBlock ≠ some w1.heap.size := fun e => Nat.lt_irrefl _ (hr.row.lt e)
    rw [← hW] at hB
    rw [← hW] at c1 y0 y1 y2 ⊢
    generalize hn1 : w1.heap.size = n1 at *
    have HSz := Lib.hid hsz
    have hpn : p ≠ n1 := Nat.ne_of_lt hp1
    have HR2 := Lib.hid hr2
    have HFin : Hid (∀ n o v5 w5, w5.ownsRow 0 61 3 v5 ((s.items.eraseIdx i).length + 1) (flat encI (s.items.eraseIdx i) ++ encI x) → ((W.drewN n).alloc o).grownBy w5 v1.ownBlock → (v5.ownBlock = v1.ownBlock ∨ v5.ownBlock = some (W.heap.size + 1)) → RefAtL (w5.setCell ⟨p, 1, none⟩ v5) (Gr F w (w5.setCell ⟨p, 1, none⟩ v5)) p { s with items := s.items.eraseIdx i ++ [x] } ∧ Only F w (w5.setCell ⟨p, 1, none⟩ v5)) := Lib.hid (by
      intro n o v5 w5 h5 g5 a5
      have hh := (HR2.out.only ((Only.refl (fun _ => False) W).drewN n) fun _ _ => id).pushed x HOk2.out o h5 g5 a5
      have hs1 := HO1.out.size
      have hs0 : (W.drewN n).heap.size = W.heap.size := rfl
      have hs3 := hh.2.size
      refine ⟨hh.1.mono fun k hk => ?_, (HO2.out.drewN n).trans hh.2 fun j hj hg => ?_⟩
      · rcases hk with (hk | hk) | hk
        · exact .inl hk
        · exact .inr (by omega)
        · exact .inr (by omega)
      · exact hg.elim id fun hg => by omega)
    have hrow2 := hr2.row.own
    rw [hv] at hrow2
    have HRowA : Hid ((W.drew.alloc (.cells #[.int .i64 x.key, .int .i64 (x.pins : Int), .bool x.marked] 61)).ownsRow 0 61 3 (.slice A (s.items.eraseIdx i).length c) (s.items.eraseIdx i).length (flat encI (s.items.eraseIdx i))) := Lib.hid (hrow2.alloc _)
    have HRdA : Hid (Reads (W.drew.alloc (.cells #[.int .i64 x.key, .int .i64 (x.pins : Int), .bool x.marked] 61)) (W.heap.size + 1) 3 (some ⟨W.heap.size, 0, none⟩) 1 (encI x)) := Lib.hid (reads_newN W.drew 61 3 (encI x) 1 rfl)
    have HB1 : Hid ((s.items.eraseIdx i).length + 1 ≤ maxLen) := Lib.hid (by rw [HEl.out]; have := HLen.out; unfold maxLen; omega)
    have HB2 : Hid (((s.items.eraseIdx i).length + 1) * 24 ≤ 140737488355328) := Lib.hid (by rw [HEl.out]; have := HLen.out; omega)
    have HOne : Hid (∀ u ∈ encI x, u.oneCell' = true) := Lib.hid (by have := encI_one [x]; rw [flat_one] at this; exact this)
    rw [hv] at hrl
    have HP5 : Hid (∀ w5, (W.drew.alloc (.cells #[.int .i64 x.key, .int .i64 (x.pins : Int), .bool x.marked] 61)).grownBy w5 (Value.slice A (s.items.eraseIdx i).length c).ownBlock → (w5.cell? ⟨p, 1, none⟩ = some (.slice A (s.items.eraseIdx i).length c) ∧ w5.frozen? ⟨p, 1, none⟩ = false) ∧ w5.cell? ⟨n1, 0, none⟩ = some (.int .i64 x.key) ∧ w5.cell? ⟨n1, 1, none⟩ = some (.int .i64 (x.pins : Int)) ∧ w5.cell? ⟨n1, 2, none⟩ = some (.bool x.marked)) := Lib.hid (by
      intro w5 hg
      have hb := (HR2.out.blk.drew.alloc (.cells #[.int .i64 x.key, .int .i64 (x.pins : Int), .bool x.marked] 61)).grown hg (Ne.symm (own_blk_ne hrow2 HR2.out.blk (by decide)))
      have hn := (hB.drew.alloc (.cells #[.int .i64 x.key, .int .i64 (x.pins : Int), .bool x.marked] 61)).grown hg (Ne.symm hrl)
      exact ⟨⟨(hb.cell 1).trans (by rw [hv]; rfl), hb.frozen 1⟩, (hn.cell 0).trans rfl, (hn.cell 1).trans rfl, (hn.cell 2).trans rfl⟩)
    have HFin' : Hid (∀ v5 w5, w5.ownsRow 0 61 3 v5 ((s.items.eraseIdx i).length + 1) (flat encI (s.items.eraseIdx i) ++ encI x) → (W.drew.alloc (.cells #[.int .i64 x.key, .int .i64 (x.pins : Int), .bool x.marked] 61)).grownBy w5 (Value.slice A (s.items.eraseIdx i).length c).ownBlock → (v5.ownBlock = (Value.slice A (s.items.eraseIdx i).length c).ownBlock ∨ v5.ownBlock = some (W.drew.alloc (.cells #[.int .i64 x.key, .int .i64 (x.pins : Int), .bool x.marked] 61)).heap.size) → RefAtL (w5.setCell ⟨p, 1, none⟩ v5) (Gr F w (w5.setCell ⟨p, 1, none⟩ v5)) p { s with items := s.items.eraseIdx i ++ [x] } ∧ Only F w (w5.setCell ⟨p, 1, none⟩ v5)) := Lib.hid (by
      intro v5 w5 h1 h2 h3
      refine HFin.out 1 _ v5 w5 h1 (by rw [hv]; exact h2) ?_
      rw [hv]
      rcases h3 with h3 | h3
      · exact .inl h3
      · exact .inr (by rw [h3]; simp))
    clear hr hr2 hW hn1 hsz hB hlc HR1 hp1 hrow2 hv HFin hrl
    go_region_law (first
      | (refine step_append_any _ (by rfl) (.tmp 19) (.tmp 21) 29 (by rfl) 0 61 i0 (.agg #[.int .i64 0, .int .i64 0, .bool false]) 3 24 Try.underlying29 hi1 hz0 hz1 hz2 rfl (by decide) (.slice A (s.items.eraseIdx i).length c) (s.items.eraseIdx i).length _ (by rfl) HRowA.out (W.heap.size + 1) (some ⟨W.heap.size, 0, none⟩) 1 1 (encI x) (by rfl) HRdA.out HOne.out HB1.out HB2.out (Nat.zero_le _) ?_; intro v5 w5 ho5 hg5 hat5; have hfin := Lib.hid (HFin'.out v5 w5 ho5 hg5 hat5); obtain ⟨⟨p1, p2⟩, p3, p4, p5⟩ := HP5.out w5 hg5; obtain ⟨A5, c5, hv5⟩ := own_val ho5; subst hv5; clear ho5 hg5 hat5))
    all_goals go_wp2
    all_goals
      go_ret
      rw [HE.out]
      exact ⟨rfl, hfin.out⟩
  · rw [hx] at HAt
    have HE := Lib.hid (LU.use_none hn)
    have HT : Hid (RefAtL w (Gr F w w) p s ∧ Only F w w) := Lib.hid ⟨h.mono fun _ hk => .inl hk, Only.refl _ _⟩
    clear hx hn h hok
    go_enter Try.func25, Try.ntmps25
    go_wp2_with (go_at_call 12; refine HAt.out.mono ?_; rintro e w1 ⟨rfl, rfl⟩)
    go_ret
    rw [HE.out]
    exact ⟨rfl, HT.out⟩

set_option maxRecDepth 100000 in
set_option maxHeartbeats 3200000 in
theorem ref_drop (h : RefAtL w F p s) (k : Int) :
    Calls Try.prog 27 #[.pointer (some ⟨p, 0, none⟩), .int .i64 k] w (DidL w F p (.bool (s.drop k).2) (s.drop k).1) := by
  have HAt := Lib.hid (ref_at h k)
  have hok : s.Ok := by obtain ⟨v, h⟩ := h; exact h.ok
  have HT : Hid (RefAtL w (Gr F w w) p s ∧ Only F w w) := Lib.hid ⟨h.mono fun _ hk => .inl hk, Only.refl _ _⟩
  rcases idx_place s k with ⟨i, hi, hk, hx⟩ | ⟨hn, hx⟩
  · subst hk
    rw [hx hok] at HAt
    have hu := LU.drop_at hok hi
    have HOut := Lib.hid (ref_out h i hi)
    have hi0 : (0 : Int) ≤ (i : Int) := by omega
    have hii : (i : Int) < (s.items.length : Int) := by omega
    obtain ⟨v, h⟩ := h
    obtain ⟨g, cap, hv, -, hgw, hlc, hcm, hc, -⟩ := it_cells h.row (by omega)
    obtain ⟨-, x1, -⟩ := hc i hi
    have c1 := h.cells.2
    rw [hv] at c1
    unfold maxLen at hcm
    clear hc hx h hok hv
    generalize s.items[i] = x at *
    unfold itV at HOut
    by_cases h0 : 0 < x.pins
    · rw [if_pos h0] at hu
      have HE := Lib.hid hu
      have hp0 : (0 : Int) < (x.pins : Int) := by omega
      clear hu h0
      generalize (x.pins : Int) = n at *
      go_enter Try.func27, Try.ntmps27
      go_wp2_with (go_at_call 12; refine HAt.out.mono ?_; rintro e w1 ⟨rfl, rfl⟩)
      go_ret
      rw [HE.out]
      exact ⟨rfl, HT.out⟩
    · rw [if_neg h0] at hu
      have HE := Lib.hid hu
      have hp0 : ¬ (0 : Int) < (x.pins : Int) := by omega
      clear hu h0
      generalize (x.pins : Int) = n at *
      go_enter Try.func27, Try.ntmps27
      go_wp2_with (first
        | (go_at_call 12; refine HAt.out.mono ?_; rintro e w1 ⟨rfl, rfl⟩)
        | (go_at_call 34; refine HOut.out.mono ?_; rintro e w1 ⟨rfl, hr1, ho1⟩))
      go_ret
      rw [HE.out]
      exact ⟨rfl, hr1, ho1⟩
  · rw [hx] at HAt
    have HE := Lib.hid (LU.drop_none hn)
    clear hx hn h hok
    go_enter Try.func27, Try.ntmps27
    go_wp2_with (go_at_call 12; refine HAt.out.mono ?_; rintro e w1 ⟨rfl, rfl⟩)
    go_ret
    rw [HE.out]
    exact ⟨rfl, HT.out⟩
end
end Go.Proofs.Ytopdfhedifcalaa
