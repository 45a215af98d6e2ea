/- Contracts of octavoref06's out, Use, Drop, Add over the abstract list. Conditions: those that each theorem names. -/
import Derived.Test.YtopdfhedifcalaaLqA
import Derived.Deep.DrawnRows
import Derived.Deep.DeepCutAuto
namespace Go.Proofs.Ytopdfhedifcalaa
open Go.RowKit
attribute [local go_sem ↓] Go.wp_at_zero Go.wp_at_succ

theorem itinfo : (Try.prog.info? 61).map (fun i => (i.zero, i.size, i.bytes)) = some (some (.agg #[.int .i64 0, .int .i64 0, .bool false]), 3, 24) := by kernel_rfl
/-- Behind a call on the document's list. -/
def DidL (w : World) (F : Nat → Prop) (p : Nat) (v : Value) (s : LU) (e : Ending) (w' : World) : Prop := e = .returned v ∧ RefAtL w' (Gr F w w') p s ∧ Only F w w'
def itV (x : It) : Value := .agg #[.int .i64 x.key, .int .i64 (x.pins : Int), .bool x.marked]
theorem flat_erase {α : Type} {enc : α → List Value} (l : List α) (i : Nat) : flat enc (l.eraseIdx i) = flat enc (l.take i) ++ flat enc (l.drop (i + 1)) := by
  rw [List.eraseIdx_eq_take_drop_succ, flat_append]
theorem add_zero (g j : Nat) : (⟨g, 0, none⟩ : Addr).add j = ⟨g, j, none⟩ := by
  unfold Addr.add
  by_cases hj : j = 0
  · subst hj; rfl
  · simp [hj]
theorem own_val {w : World} {base : Nat} {e : TypeId} {size n : Nat} {v : Value} {xs : List Value} (h : w.ownsRow base e size v n xs) : ∃ A c, v = .slice A n c := by
  rcases h.2 with ⟨rfl, rfl⟩ | ⟨g, cap, cur, rfl, _⟩
  · exact ⟨none, 0, rfl⟩
  · exact ⟨_, _, rfl⟩
/-- The world behind two new structs. -/
def twoW (w : World) (x : It) : World := (w.alloc (.cells #[.int .i64 0, .int .i64 0, .bool false] 61)).alloc (.cells #[.int .i64 x.key, .int .i64 (x.pins : Int), .bool x.marked] 61)
/-- A new row of items is the list's. -/
theorem RefL.newRow {w w' : World} {F : Nat → Prop} {p : Nat} {v v2 : Value} {s : LU} (h : RefL w F p v s) (items : List It) (hok : LU.Ok { s with items := items }) (base : Nat) (hB : w.heap.size ≤ base) (ho : Only (fun k => k = p) w w') (hb : Blk w' p 31 #[.int .i64 (s.cap : Int), v2])
    (hr : w'.ownsRow base 61 3 v2 items.length (flat encI items)) : RefAtL w' (Gr F w w') p { s with items := items } ∧ Only F w w' := by
  refine ⟨⟨v2, hb, .inl h.fp, ⟨own_base hr (Nat.zero_le _), fun k hk => ?_⟩, hok, h.cap⟩, ho.mono fun k _ hk => hk ▸ h.fp⟩
  have := hr.lt k hk
  exact .inr (by omega)
theorem LU.Ok.erase {s : LU} (h : s.Ok) (i : Nat) : LU.Ok { s with items := s.items.eraseIdx i } :=
  ⟨h.nodup.sublist ((List.eraseIdx_sublist _ _).map _), Nat.le_trans (List.length_eraseIdx_le _ _) h.len⟩
section
variable {w : World} {F : Nat → Prop} {p : Nat} {s : LU}
set_option maxRecDepth 100000 in
set_option maxHeartbeats 3200000 in
theorem ref_out (h : RefAtL w F p s) (i : Nat) (hi : i < s.items.length) :
    Calls Try.prog 34 #[.pointer (some ⟨p, 0, none⟩), .int .i64 (i : Int)] w (DidL w F p (itV s.items[i]) { s with items := s.items.eraseIdx i }) := by
  obtain ⟨v, h⟩ := h
  obtain ⟨i0, hi0, hz0, hz1, hz2⟩ := info_parts itinfo
  have c1 := h.cells.2
  have HR := Lib.hid h
  obtain ⟨g, cap, hv, hgF, hgw, hlc, hcm, hc, hfz⟩ := it_cells h.row (by omega)
  obtain ⟨x0, x1, x2⟩ := hc i hi
  have hlen := h.len
  unfold maxLen at hcm
  rw [hv] at c1
  have hrow := h.row
  rw [hv] at hrow
  have hpw := h.blk.lt
  have hii : (i : Int) < (s.items.length : Int) := by omega
  have hpf := h.blk.frozen 1
  have hdw : i + (s.items.length - (i + 1)) = s.items.length - 1 := by omega
  have hel : (s.items.eraseIdx i).length = s.items.length - 1 := List.length_eraseIdx_of_lt hi
  clear hc h hfz
  have HRd := Lib.hid hrow.reads
  generalize hx : s.items[i] = x at *
  have HX := Lib.hid hx
  clear hx hrow
  have HK := Lib.hid ((HRd.out.pre (Nat.le_of_lt hi)))
  rw [flat_take encI_len] at HK
  have HD : Hid (Reads w w.heap.size 3 (if cap = i + 1 then some ⟨g, 0, none⟩ else some ⟨g, (i + 1) * 3, none⟩) (s.items.length - (i + 1)) (flat encI (s.items.drop (i + 1)))) := Lib.hid (by
    have := HRd.out.cut (k := i + 1) hi hlc
    rw [flat_drop encI_len] at this
    rw [Option.map_some, add_zero] at this
    exact this)
  -- the world of the two new structs, and what any world behind it keeps
  have hsz : (twoW w x).heap.size = w.heap.size + 2 := by simp [twoW]
  have hTb : Below w.heap.size w (twoW w x) := ((Below.refl _ w).alloc (Nat.le_refl _) _).alloc (by simp) _
  have hN0 : Blk (twoW w x) w.heap.size 61 #[.int .i64 0, .int .i64 0, .bool false] := (Blk.new w _ _).alloc _
  have hN1 : Blk (twoW w x) (w.heap.size + 1) 61 #[.int .i64 x.key, .int .i64 (x.pins : Int), .bool x.marked] := by
    have := Blk.new (w.alloc (.cells #[.int .i64 0, .int .i64 0, .bool false] 61)) 61 #[.int .i64 x.key, .int .i64 (x.pins : Int), .bool x.marked]
    rw [World.size_alloc] at this
    exact this
  have HKeep : Hid (∀ w2, Below (w.heap.size + 2) (twoW w x) w2 → w2.cell? ⟨p, 1, none⟩ = some (.slice (some ⟨g, 0, none⟩) s.items.length cap) ∧ w2.frozen? ⟨p, 1, none⟩ = false ∧ Blk w2 w.heap.size 61 #[.int .i64 0, .int .i64 0, .bool false] ∧ Blk w2 (w.heap.size + 1) 61 #[.int .i64 x.key, .int .i64 (x.pins : Int), .bool x.marked] ∧ Below w.heap.size w w2) := Lib.hid (by
    intro w2 hb
    refine ⟨?_, ?_, hN0.below hb (by omega), hN1.below hb (by omega), hTb.trans (hb.mono (by omega))⟩
    · exact (hb.cell (p := ⟨p, 1, none⟩) (show p < _ by omega)).trans ((hTb.cell (p := ⟨p, 1, none⟩) hpw).trans c1)
    · exact (hb.frozen (p := ⟨p, 1, none⟩) (show p < _ by omega)).trans ((hTb.frozen (p := ⟨p, 1, none⟩) hpw).trans hpf))
  have HFin : Hid (∀ w2 v2, Below (w.heap.size + 2) (twoW w x) w2 → w2.ownsRow (w.heap.size + 2) 61 3 v2 (s.items.length - 1) (flat encI (s.items.eraseIdx i)) →
      RefAtL ((((w2.setCell ⟨p, 1, none⟩ v2).setCell ⟨w.heap.size, 0, none⟩ (.int .i64 x.key)).setCell ⟨w.heap.size, 1, none⟩ (.int .i64 (x.pins : Int))).setCell ⟨w.heap.size, 2, none⟩ (.bool x.marked)) (Gr F w ((((w2.setCell ⟨p, 1, none⟩ v2).setCell ⟨w.heap.size, 0, none⟩ (.int .i64 x.key)).setCell ⟨w.heap.size, 1, none⟩ (.int .i64 (x.pins : Int))).setCell ⟨w.heap.size, 2, none⟩ (.bool x.marked))) p { s with items := s.items.eraseIdx i } ∧ Only F w ((((w2.setCell ⟨p, 1, none⟩ v2).setCell ⟨w.heap.size, 0, none⟩ (.int .i64 x.key)).setCell ⟨w.heap.size, 1, none⟩ (.int .i64 (x.pins : Int))).setCell ⟨w.heap.size, 2, none⟩ (.bool x.marked))) := Lib.hid (by
    intro w2 v2 hb hr
    obtain ⟨_, _, n0, n1, hbw⟩ := HKeep.out w2 hb
    have hO1 : Only (fun k => k = p) w2 (w2.setCell ⟨p, 1, none⟩ v2) := (Only.refl (fun k => k = p) _).setCell (p := ⟨p, 1, none⟩) (.inl rfl) _
    have hO3 : Only (fun k => k = w.heap.size) (w2.setCell ⟨p, 1, none⟩ v2) ((((w2.setCell ⟨p, 1, none⟩ v2).setCell ⟨w.heap.size, 0, none⟩ (.int .i64 x.key)).setCell ⟨w.heap.size, 1, none⟩ (.int .i64 (x.pins : Int))).setCell ⟨w.heap.size, 2, none⟩ (.bool x.marked)) := (((Only.refl (fun k => k = w.heap.size) _).setCell (p := ⟨w.heap.size, 0, none⟩) (.inl rfl) _).setCell (p := ⟨w.heap.size, 1, none⟩) (.inl rfl) _).setCell (p := ⟨w.heap.size, 2, none⟩) (.inl rfl) _
    have hbp := (HR.out.blk.below (hbw) hpw).set_ 1 v2
    have hown : ∀ k, v2.ownBlock = some k → w.heap.size + 2 ≤ k := fun k hk => own_ge hr k hk
    have hr1 := own_only (own_only hr hO1 fun k hk e => by have := hown k hk; omega) hO3 fun k hk e => by have := hown k hk; omega
    refine HR.out.newRow _ (HR.out.ok.erase i) (w.heap.size + 2) (by omega) ?_ (Blk.only hbp hO3 (by omega)) (by rw [hel]; exact hr1)
    refine ((Only.of_below (F := fun k => k = p) hbw).trans hO1 fun j hj e => e).trans hO3 fun j hj e => ?_
    have : j = w.heap.size := e
    omega)
  clear hTb hN0 hN1 hpf
  have HDw := Lib.hid hdw
  clear hdw
  have HOk := Lib.hid (flat_erase (enc := encI) s.items i)
  have hpn : p < w.heap.size + 1 := by omega
  by_cases hlt : i + 1 < s.items.length
  · have hne : cap ≠ i + 1 := by omega
    have HDx : Hid (∀ w1, Below w.heap.size w w1 → Reads w1 w.heap.size 3 (some ⟨g, (i + 1) * 3, none⟩) (s.items.length - (i + 1)) (flat encI (s.items.drop (i + 1)))) := Lib.hid fun w1 hb => by
      have := HD.out
      rw [if_neg hne] at this
      exact this.below hb
    have hki : (i : Int) + 1 < (s.items.length : Int) := by omega
    clear HD
    go_enter Try.func34, Try.ntmps34
    go_wp2_with (first
      | (at_builtin; refine wpList_append_any _ rfl (.tmp 14) (.tmp 20) 29 rfl (w.heap.size + 2) 61 i0 (.agg #[.int .i64 0, .int .i64 0, .bool false]) 3 24 Try.underlying29 hi0 hz0 hz1 hz2 rfl (by decide) (.slice none 0 0) 0 [] rfl (own_nil _ _ _ _) w.heap.size (some ⟨g, 0, none⟩) i cap _ rfl ((HK.out.alloc (Nat.le_refl _) _).alloc (by simp) _) (fun u hu => encI_one _ u hu) (by unfold maxLen; omega) (by omega) (by simp) ?_; intro v1 w1 ho1 hg1 _; rw [Nat.zero_add, List.nil_append] at ho1; have HB1 : Hid (Below (w.heap.size + 2) (twoW w x) w1) := Lib.hid ((Below.refl _ (twoW w x)).grown hg1 (by rw [hsz]; exact Nat.le_refl _) (fun k hk => by cases hk)); have HO1 := Lib.hid ho1; obtain ⟨c1', -, -, -, -⟩ := HKeep.out w1 HB1.out; clear ho1 hg1)
      | (at_builtin; refine wpList_append_any _ rfl (.tmp 22) (.tmp 29) 29 rfl (w.heap.size + 2) 61 i0 (.agg #[.int .i64 0, .int .i64 0, .bool false]) 3 24 Try.underlying29 hi0 hz0 hz1 hz2 rfl (by decide) v1 i _ rfl HO1.out w.heap.size _ (s.items.length - (i + 1)) _ _ rfl (HDx.out w1 (HKeep.out w1 HB1.out).2.2.2.2) (fun u hu => encI_one _ u hu) (by unfold maxLen; omega) (by omega) (by rw [← hsz]; exact HB1.out.size) ?_; intro v2 w2 ho2 hg2 _; rw [HDw.out, ← HOk.out] at ho2; have HB2 : Hid (Below (w.heap.size + 2) (twoW w x) w2) := Lib.hid (HB1.out.grown hg2 (by rw [← hsz]; exact HB1.out.size) (fun k hk => own_ge HO1.out k hk)); have HO2 := Lib.hid ho2; obtain ⟨c1'', f1'', n0'', n1'', hbw⟩ := HKeep.out w2 HB2.out; have y0 := (n1''.cell 0).trans rfl; have y1 := (n1''.cell 1).trans rfl; have y2 := (n1''.cell 2).trans rfl; have z0 := (n0''.cell 0).trans rfl; have z1 := (n0''.cell 1).trans rfl; have z2 := (n0''.cell 2).trans rfl; have q0 := n0''.frozen 0; have q1 := n0''.frozen 1; have q2 := n0''.frozen 2; obtain ⟨A2, c2, hv2⟩ := own_val ho2; subst hv2; clear ho2 hg2 n0'' n1''))
    have e0 : ((((w2.setCell ⟨p, 1, none⟩ (.slice A2 (s.items.length - 1) c2)).setCell ⟨w.heap.size, 0, none⟩ (.int .i64 x.key)).setCell ⟨w.heap.size, 1, none⟩ (.int .i64 (x.pins : Int))).setCell ⟨w.heap.size, 2, none⟩ (.bool x.marked)).cell? ⟨w.heap.size, 0, none⟩ = some (.int .i64 x.key) := (cell_far _ _ fun _ => by decide).trans ((cell_far _ _ fun _ => by decide).trans (cell_at _ ((cell_far _ _ fun e => by omega).trans z0)))
    have e1 : ((((w2.setCell ⟨p, 1, none⟩ (.slice A2 (s.items.length - 1) c2)).setCell ⟨w.heap.size, 0, none⟩ (.int .i64 x.key)).setCell ⟨w.heap.size, 1, none⟩ (.int .i64 (x.pins : Int))).setCell ⟨w.heap.size, 2, none⟩ (.bool x.marked)).cell? ⟨w.heap.size, 1, none⟩ = some (.int .i64 (x.pins : Int)) := (cell_far _ _ fun _ => by decide).trans (cell_at _ ((cell_far _ _ fun _ => by decide).trans ((cell_far _ _ fun e => by omega).trans z1)))
    have e2 : ((((w2.setCell ⟨p, 1, none⟩ (.slice A2 (s.items.length - 1) c2)).setCell ⟨w.heap.size, 0, none⟩ (.int .i64 x.key)).setCell ⟨w.heap.size, 1, none⟩ (.int .i64 (x.pins : Int))).setCell ⟨w.heap.size, 2, none⟩ (.bool x.marked)).cell? ⟨w.heap.size, 2, none⟩ = some (.bool x.marked) := cell_at _ ((cell_far _ _ fun _ => by decide).trans ((cell_far _ _ fun _ => by decide).trans ((cell_far _ _ fun e => by omega).trans z2)))
    have hfin := HFin.out w2 _ HB2.out HO2.out
    refine bodyPost_ret (v := itV x) (by simp [results, Try.f34, go_sem, e0, e1, e2, itV]) rfl ⟨rfl, hfin.1, hfin.2⟩
  · have hd0 : flat encI (s.items.drop (i + 1)) = [] := by rw [List.drop_of_length_le (by omega)]; rfl
    have HDx : Hid (∀ w1, Below w.heap.size w w1 → ∀ A : Option Addr, Reads w1 w.heap.size 3 A (s.items.length - (i + 1)) (flat encI (s.items.drop (i + 1)))) := Lib.hid fun w1 hb A => ⟨by rw [hd0]; simp; omega, fun h => absurd h (by omega)⟩
    have hki : (i : Int) + 1 ≤ (s.items.length : Int) := by omega
    clear HD hd0 hlt
    go_enter Try.func34, Try.ntmps34
    go_wp2_with (first
      | (at_builtin; refine wpList_append_any _ rfl (.tmp 14) (.tmp 20) 29 rfl (w.heap.size + 2) 61 i0 (.agg #[.int .i64 0, .int .i64 0, .bool false]) 3 24 Try.underlying29 hi0 hz0 hz1 hz2 rfl (by decide) (.slice none 0 0) 0 [] rfl (own_nil _ _ _ _) w.heap.size (some ⟨g, 0, none⟩) i cap _ rfl ((HK.out.alloc (Nat.le_refl _) _).alloc (by simp) _) (fun u hu => encI_one _ u hu) (by unfold maxLen; omega) (by omega) (by simp) ?_; intro v1 w1 ho1 hg1 _; rw [Nat.zero_add, List.nil_append] at ho1; have HB1 : Hid (Below (w.heap.size + 2) (twoW w x) w1) := Lib.hid ((Below.refl _ (twoW w x)).grown hg1 (by rw [hsz]; exact Nat.le_refl _) (fun k hk => by cases hk)); have HO1 := Lib.hid ho1; obtain ⟨c1', -, -, -, -⟩ := HKeep.out w1 HB1.out; clear ho1 hg1)
      | (at_builtin; refine wpList_append_any _ rfl (.tmp 22) (.tmp 29) 29 rfl (w.heap.size + 2) 61 i0 (.agg #[.int .i64 0, .int .i64 0, .bool false]) 3 24 Try.underlying29 hi0 hz0 hz1 hz2 rfl (by decide) v1 i _ rfl HO1.out w.heap.size _ (s.items.length - (i + 1)) _ _ rfl (HDx.out w1 (HKeep.out w1 HB1.out).2.2.2.2 _) (fun u hu => encI_one _ u hu) (by unfold maxLen; omega) (by omega) (by rw [← hsz]; exact HB1.out.size) ?_; intro v2 w2 ho2 hg2 _; rw [HDw.out, ← HOk.out] at ho2; have HB2 : Hid (Below (w.heap.size + 2) (twoW w x) w2) := Lib.hid (HB1.out.grown hg2 (by rw [← hsz]; exact HB1.out.size) (fun k hk => own_ge HO1.out k hk)); have HO2 := Lib.hid ho2; obtain ⟨c1'', f1'', n0'', n1'', hbw⟩ := HKeep.out w2 HB2.out; have y0 := (n1''.cell 0).trans rfl; have y1 := (n1''.cell 1).trans rfl; have y2 := (n1''.cell 2).trans rfl; have z0 := (n0''.cell 0).trans rfl; have z1 := (n0''.cell 1).trans rfl; have z2 := (n0''.cell 2).trans rfl; have q0 := n0''.frozen 0; have q1 := n0''.frozen 1; have q2 := n0''.frozen 2; obtain ⟨A2, c2, hv2⟩ := own_val ho2; subst hv2; clear ho2 hg2 n0'' n1''))
    all_goals
      have e0 : ((((w2.setCell ⟨p, 1, none⟩ (.slice A2 (s.items.length - 1) c2)).setCell ⟨w.heap.size, 0, none⟩ (.int .i64 x.key)).setCell ⟨w.heap.size, 1, none⟩ (.int .i64 (x.pins : Int))).setCell ⟨w.heap.size, 2, none⟩ (.bool x.marked)).cell? ⟨w.heap.size, 0, none⟩ = some (.int .i64 x.key) := (cell_far _ _ fun _ => by decide).trans ((cell_far _ _ fun _ => by decide).trans (cell_at _ ((cell_far _ _ fun e => by omega).trans z0)))
      have e1 : ((((w2.setCell ⟨p, 1, none⟩ (.slice A2 (s.items.length - 1) c2)).setCell ⟨w.heap.size, 0, none⟩ (.int .i64 x.key)).setCell ⟨w.heap.size, 1, none⟩ (.int .i64 (x.pins : Int))).setCell ⟨w.heap.size, 2, none⟩ (.bool x.marked)).cell? ⟨w.heap.size, 1, none⟩ = some (.int .i64 (x.pins : Int)) := (cell_far _ _ fun _ => by decide).trans (cell_at _ ((cell_far _ _ fun _ => by decide).trans ((cell_far _ _ fun e => by omega).trans z1)))
      have e2 : ((((w2.setCell ⟨p, 1, none⟩ (.slice A2 (s.items.length - 1) c2)).setCell ⟨w.heap.size, 0, none⟩ (.int .i64 x.key)).setCell ⟨w.heap.size, 1, none⟩ (.int .i64 (x.pins : Int))).setCell ⟨w.heap.size, 2, none⟩ (.bool x.marked)).cell? ⟨w.heap.size, 2, none⟩ = some (.bool x.marked) := cell_at _ ((cell_far _ _ fun _ => by decide).trans ((cell_far _ _ fun _ => by decide).trans ((cell_far _ _ fun e => by omega).trans z2)))
      have hfin := HFin.out w2 _ HB2.out HO2.out
      refine bodyPost_ret (v := itV x) (by simp [results, Try.f34, go_sem, e0, e1, e2, itV]) rfl ⟨rfl, hfin.1, hfin.2⟩
end
end Go.Proofs.Ytopdfhedifcalaa
