/- Contract of octavoref06's Keys over the abstract list: all of them, or the marked ones by rising number. Conditions: the list stands in memory. -/
import Derived.Test.YtopdfhedifcalaaLqD
import Derived.Test.YtopdfhedifcalaaLrG
import Derived.Laws.OwnMore
import Derived.IntWalk
namespace Go.Proofs.Ytopdfhedifcalaa
open Go.RowKit
attribute [local go_sem ↓] Go.wp_at_zero Go.wp_at_succ

section
variable {w : World} {F : Nat → Prop} {p : Nat} {s : LU}
theorem take_keys (s : LU) (n : Nat) (h : n < s.items.length) : (s.items.take (n + 1)).map It.key = (s.items.take n).map It.key ++ [s.items[n].key] := by
  rw [List.take_succ_eq_append_getElem h, List.map_append]
  rfl
theorem introw_below {W W' : World} {base : Nat} {v : Value} {l : List Int} {o : Obj} (h : IntRow W base v l) (hb : Below base w W) (hw : base ≤ w.heap.size) (hg : (W.alloc o).grownBy W' v.ownBlock) : Below base w W' :=
  (hb.alloc (Nat.le_trans hw hb.size) o).grown hg (by have := hb.size; simp; omega) (fun k hk => own_ge h k hk)
set_option maxRecDepth 100000 in
set_option maxHeartbeats 3200000 in
theorem ref_keys (h : RefAtL w F p s) :
    Calls Try.prog 15 #[.pointer (some ⟨p, 0, none⟩), .bool false] w fun e w' => ∃ v, e = .returned v ∧ IntRow w' w.heap.size v s.keys ∧ Below w.heap.size w w' := by
  obtain ⟨i0, hi0, hz0, hz1, hz2⟩ := info_parts intinfo
  obtain ⟨v, h⟩ := h
  obtain ⟨A, c, hv, hlc, hcm, _⟩ := h.row.value
  have c1 := h.cells.2
  have hpw := h.blk.lt
  have HR := Lib.hid h
  have HLen := Lib.hid h.len
  unfold maxLen at hcm
  rw [hv] at c1
  clear h
  go_enter Try.func15, Try.ntmps15
  go_wp2
  go_loopw [5, 6] (fun v i wr => ∃ n : Nat, n ≤ s.items.length ∧ i = .int .i64 n ∧ Hid (IntRow wr w.heap.size v ((s.items.take n).map It.key)) ∧ Hid (Below w.heap.size w wr)) (fun _ i _ => s.items.length - (intOf i).toNat)
  case atStart => exact ⟨0, Nat.zero_le _, rfl, introw_nil _ _, Lib.hid (Below.refl _ _)⟩
  case round =>
    obtain ⟨n, hn, rfl, HO, HB⟩ := hrel
    have c1' := (HB.out.cell (p := ⟨p, 1, none⟩) hpw).trans c1
    by_cases hlt : n < s.items.length
    · obtain ⟨g, cap, hv2, _, hgw, _, _, hc, _⟩ := it_cells HR.out.row (by omega)
      rw [hv] at hv2
      obtain ⟨rfl, rfl⟩ : A = some ⟨g, 0, none⟩ ∧ c = cap := by simpa using hv2
      obtain ⟨x0, _, _⟩ := hc n hlt
      have x0' := (HB.out.cell (p := ⟨g, n * 3, none⟩) hgw).trans x0
      have hi : (n : Int) < (s.items.length : Int) := by omega
      have HT := Lib.hid (take_keys s n hlt)
      obtain ⟨A5, c5, hv5⟩ := HO.out.slice_n (n := n) (by simp; omega)
      subst hv5
      have hnl : n ≤ 4096 := Nat.le_trans hn HLen.out
      clear hc hv2 x0
      generalize s.items[n].key = x at *
      go_wp2_with (at_builtin; refine wpList_append_any _ rfl (.tmp 19) (.tmp 28) 37 rfl w.heap.size 3 i0 (.int .i64 0) 1 8 Try.underlying37 hi0 hz0 hz1 hz2 rfl (by decide) (.slice A5 n c5) ((s.items.take n).map It.key).length _ rfl (World.ownsRow.alloc HO.out _) (wr.heap.size + 1) (some ⟨wr.heap.size, 0, none⟩) 1 1 [.int .i64 x] rfl (reads_newN wr 3 1 [.int .i64 x] 1 rfl) (by simp [Value.oneCell']) (by unfold maxLen; simp; omega) (by simp; omega) (by have := HB.out.size; simp; omega) ?_; intro v2 w2 ho2 hg2 _; have HO2 : Hid (IntRow w2 w.heap.size v2 ((s.items.take (n + 1)).map It.key)) := Lib.hid (by rw [HT.out]; unfold IntRow; rw [List.length_append, List.map_append]; exact ho2); have HB2 := Lib.hid (introw_below HO.out HB.out (Nat.le_refl _) hg2); clear ho2 hg2)
      go_roundw
      case rel => exact ⟨n + 1, by omega, by go_num, HO2, HB2⟩
      case measure => simp [intOf]; omega
    · obtain rfl : n = s.items.length := by omega
      have hfin := HO.out
      rw [List.take_length] at hfin
      have HF := Lib.hid hfin
      clear hfin HO
      go_wp2
      go_ret
      exact ⟨_, rfl, HF.out, HB.out⟩

/-! ### The marked ones, by rising number -/
/-- The marked keys of the first n items, rising. -/
def rise (s : LU) (n : Nat) : List Int := LU.risen (((s.items.take n).filter It.marked).map It.key)
theorem rise_no {s : LU} {n : Nat} (h : n < s.items.length) (hm : s.items[n].marked = false) : rise s (n + 1) = rise s n := by
  unfold rise
  rw [List.take_succ_eq_append_getElem h, List.filter_append, List.filter_cons_of_neg (by simp [hm])]
  simp
theorem rise_yes {s : LU} {n : Nat} (h : n < s.items.length) (hm : s.items[n].marked = true) : rise s (n + 1) = LU.ins s.items[n].key (rise s n) := by
  unfold rise
  rw [List.take_succ_eq_append_getElem h, List.filter_append, List.filter_cons_of_pos (by simp [hm])]
  simp [LU.risen_snoc]
theorem rise_len (s : LU) (n : Nat) : (rise s n).length ≤ n := by
  unfold rise LU.risen
  have key : ∀ (l acc : List Int), (l.foldl (fun a x => LU.ins x a) acc).length = acc.length + l.length := by
    have one : ∀ (x : Int) (l : List Int), (LU.ins x l).length = l.length + 1 := by
      intro x l
      induction l with
      | nil => rfl
      | cons y l ih => unfold LU.ins; split <;> simp [ih]
    intro l
    induction l with
    | nil => intro acc; simp
    | cons x l ih => intro acc; rw [List.foldl_cons, ih, one]; simp; omega
  rw [key]
  simp only [List.length_nil, List.length_map, Nat.zero_add]
  exact Nat.le_trans (List.length_filter_le _ _) (List.length_take_le _ _)
theorem rise_all (s : LU) : rise s s.items.length = s.marked := by unfold rise LU.marked; rw [List.take_length]
theorem rise_rises {s : LU} (h : s.Ok) (n : Nat) : (rise s n).Pairwise (· < ·) :=
  (LU.risen_is _ (h.nodup.sublist (((List.filter_sublist (p := It.marked)).trans (List.take_sublist n s.items)).map _))).1
theorem ins_mid (x : Int) : ∀ (A B : List Int), (∀ a ∈ A, ¬ x < a) → (∀ b ∈ B, x < b) → LU.ins x (A ++ B) = A ++ x :: B
  | [], [], _, _ => rfl
  | [], b :: B, _, hB => by
    show (if x < b then x :: b :: B else b :: LU.ins x B) = _
    rw [if_pos (hB b (by simp))]
    rfl
  | a :: A, B, hA, hB => by
    show (if x < a then x :: a :: (A ++ B) else a :: LU.ins x (A ++ B)) = _
    rw [if_neg (hA a (by simp)), ins_mid x A B (fun c hc => hA c (by simp [hc])) hB]
    rfl
theorem swap_list (A B : List Int) (x y : Int) : ((A ++ y :: x :: B).set A.length x).set (A.length + 1) y = A ++ x :: y :: B := by
  rw [List.set_append_right _ _ (Nat.le_refl _), Nat.sub_self, List.set_cons_zero, List.set_append_right _ _ (by omega)]
  simp
/-- Where the inner loop stands: x lies between A and B. -/
structure Mid (w wr : World) (v : Value) (R A B : List Int) (x : Int) : Prop where
  parts : A ++ B = R
  greater : ∀ b ∈ B, x < b
  row : IntRow wr w.heap.size v (A ++ x :: B)
  bel : Below w.heap.size w wr
theorem Mid.done {w wr : World} {v : Value} {R A B : List Int} {x : Int} (h : Mid w wr v R A B x) (hR : R.Pairwise (· < ·)) (hl : ∀ A' y, A = A' ++ [y] → ¬ x < y) : IntRow wr w.heap.size v (LU.ins x R) := by
  have hA : ∀ a ∈ A, ¬ x < a := by
    rcases List.eq_nil_or_concat A with rfl | ⟨A', y, rfl⟩
    · intro a ha; cases ha
    · have hy := hl A' y (by simp)
      intro a ha
      rw [List.concat_eq_append] at ha
      rcases List.mem_append.1 ha with ha | ha
      · rw [← h.parts, List.concat_eq_append, List.append_assoc, List.pairwise_append] at hR
        have := hR.2.2 a ha y (by simp)
        omega
      · rw [List.mem_singleton.1 ha]; exact hy
  rw [← h.parts, ins_mid x A B hA h.greater]
  exact h.row
theorem Mid.swap {w wr : World} {g n c : Nat} {R A B : List Int} {x y : Int} (h : Mid w wr (.slice (some ⟨g, 0, none⟩) n c) R (A ++ [y]) B x) (hy : x < y) (hn : ((A ++ [y]) ++ x :: B).length = n) :
    Mid w ((wr.drew.setCell ⟨g, A.length, none⟩ (.int .i64 x)).setCell ⟨g, A.length + 1, none⟩ (.int .i64 y)) (.slice (some ⟨g, 0, none⟩) n c) R A (y :: B) x := by
  have hr : wr.drew.ownsRow w.heap.size 3 1 (.slice (some ⟨g, 0, none⟩) n c) n (((A ++ [y]) ++ x :: B).map (Value.int .i64)) := hn ▸ h.row
  have hg : w.heap.size ≤ g := own_ge hr g rfl
  have h1 := hr.stored A.length (.int .i64 x)
  have h2 := h1.1.stored (A.length + 1) (.int .i64 y)
  refine ⟨by rw [← h.parts]; simp, fun b hb => ?_, ?_, ?_⟩
  · rcases List.mem_cons.1 hb with rfl | hb
    · exact hy
    · exact h.greater b hb
  · have e : (((((A ++ [y]) ++ x :: B).map (Value.int .i64)).set A.length (.int .i64 x)).set (A.length + 1) (.int .i64 y)) = (A ++ x :: y :: B).map (Value.int .i64) := by
      rw [← swap_list A B x y, List.map_set, List.map_set]
      simp
    have h3 := h2.1
    rw [e] at h3
    have hn2 : (A ++ x :: y :: B).length = n := by rw [← hn]; simp
    unfold IntRow
    rw [hn2]
    exact h3
  · have hb : Below w.heap.size w wr.drew := ⟨h.bel.os, h.bel.tape, h.bel.output, h.bel.size, h.bel.block⟩
    exact (hb.setCell (p := ⟨g, A.length, none⟩) hg _).setCell (p := ⟨g, A.length + 1, none⟩) hg _
theorem Mid.drewN {w wr : World} {v : Value} {R A B : List Int} {x : Int} (h : Mid w wr v R A B x) (n : Nat) : Mid w (wr.drewN n) v R A B x := ⟨h.parts, h.greater, h.row, below_drewN h.bel n⟩
set_option maxRecDepth 100000 in
set_option maxHeartbeats 6400000 in
theorem ref_marked (h : RefAtL w F p s) :
    Calls Try.prog 15 #[.pointer (some ⟨p, 0, none⟩), .bool true] w fun e w' => ∃ v, e = .returned v ∧ IntRow w' w.heap.size v s.marked ∧ Below w.heap.size w w' := by
  obtain ⟨i0, hi0, hz0, hz1, hz2⟩ := info_parts intinfo
  obtain ⟨v, h⟩ := h
  obtain ⟨A, c, hv, hlc, hcm, _⟩ := h.row.value
  have c1 := h.cells.2
  have hpw := h.blk.lt
  have HR := Lib.hid h
  have HLen := Lib.hid h.len
  unfold maxLen at hcm
  rw [hv] at c1
  clear h
  go_enter Try.func15, Try.ntmps15
  go_wp2
  go_loopw [5, 6, 7] (fun v i _ wr => ∃ n : Nat, n ≤ s.items.length ∧ i = .int .i64 n ∧ Hid (IntRow wr w.heap.size v (rise s n)) ∧ Hid (Below w.heap.size w wr)) (fun _ i _ _ => s.items.length - (intOf i).toNat)
  case atStart => exact ⟨0, Nat.zero_le _, rfl, introw_nil _ _, Lib.hid (Below.refl _ _)⟩
  case round =>
    obtain ⟨n, hn, rfl, HO, HB⟩ := hrel
    have c1' := (HB.out.cell (p := ⟨p, 1, none⟩) hpw).trans c1
    by_cases hlt : n < s.items.length
    · obtain ⟨g, cap, hv2, _, hgw, _, _, hc, _⟩ := it_cells HR.out.row (by omega)
      rw [hv] at hv2
      obtain ⟨rfl, rfl⟩ : A = some ⟨g, 0, none⟩ ∧ c = cap := by simpa using hv2
      obtain ⟨x0, _, x2⟩ := hc n hlt
      have x0' := (HB.out.cell (p := ⟨g, n * 3, none⟩) hgw).trans x0
      have x2' := (HB.out.cell (p := ⟨g, n * 3 + 2, none⟩) hgw).trans x2
      have hi : (n : Int) < (s.items.length : Int) := by omega
      obtain ⟨m, hm⟩ : ∃ m, (rise s n).length = m := ⟨_, rfl⟩
      have hml : m ≤ n := by rw [← hm]; exact rise_len s n
      have hnl : m ≤ 4096 := by have := HLen.out; omega
      obtain ⟨A5, c5, hv5⟩ := HO.out.slice_n hm
      subst hv5
      clear hc hv2 x0 x2
      cases hmk : s.items[n].marked with
      | false =>
        rw [hmk] at x2'
        have HT := Lib.hid (rise_no hlt hmk)
        clear hmk hm
        generalize s.items[n].key = x at *
        go_wp2
        go_roundw
        case rel => exact ⟨n + 1, by omega, by go_num, by rw [HT.out]; exact HO, HB⟩
        case measure => simp [intOf]; omega
      | true =>
        rw [hmk] at x2'
        have HT := Lib.hid (rise_yes hlt hmk)
        have HM := Lib.hid hm
        clear hmk hm
        generalize s.items[n].key = x at *
        go_wp2_with (at_builtin; refine wpList_append_any _ rfl (.tmp 41) (.tmp 50) 37 rfl w.heap.size 3 i0 (.int .i64 0) 1 8 Try.underlying37 hi0 hz0 hz1 hz2 rfl (by decide) (.slice A5 m c5) (rise s n).length _ rfl (World.ownsRow.alloc HO.out _) (wr.heap.size + 1) (some ⟨wr.heap.size, 0, none⟩) 1 1 [.int .i64 x] rfl (reads_newN wr 3 1 [.int .i64 x] 1 rfl) (by simp [Value.oneCell']) (by have := HM.out; unfold maxLen; omega) (by have := HM.out; omega) (by have := HB.out.size; simp; omega) ?_; intro v2 w2 ho2 hg2 _; have HO2 : Hid (IntRow w2 w.heap.size v2 (rise s n ++ [x])) := Lib.hid (by unfold IntRow; rw [List.length_append, List.map_append]; exact ho2); have HB2 := Lib.hid (introw_below HO.out HB.out (Nat.le_refl _) hg2); clear ho2 hg2)
        obtain ⟨A2, c2, hv2⟩ := HO2.out.slice_n (n := m + 1) (by rw [List.length_append, HM.out]; rfl)
        subst hv2
        have HMid : Hid (Mid w w2 (.slice A2 (m + 1) c2) (rise s n) (rise s n) [] x) := Lib.hid ⟨by simp, fun b hb => (by cases hb), HO2.out, HB2.out⟩
        have HRise := Lib.hid (rise_rises HR.out.ok n)
        have HG : Hid (∃ g2, A2 = some ⟨g2, 0, none⟩) := Lib.hid (by
          rcases HO2.out.2 with ⟨e, h0⟩ | ⟨g2, cap2, cur2, e, _⟩
          · simp at h0
          · injection e with e1 e2 e3
            exact ⟨g2, e1⟩)
        obtain ⟨g2, hg2⟩ := HG.out
        subst hg2
        clear HO2 HB2 HG x0' x2' HO HB
        generalize hRn : rise s n = R at *
        clear hRn
        obtain ⟨wo, rfl⟩ : ∃ wo : World, wo = wr := ⟨_, rfl⟩
        go_loopw [7] (fun k wr => ∃ A B : List Int, k = .int .i64 (A.length : Int) ∧ Hid (Mid w wr (.slice (some ⟨g2, 0, none⟩) (m + 1) c2) R A B x)) (fun k _ => (intOf k).toNat)
        case atStart => exact ⟨R, [], by rw [HM.out], HMid⟩
        case round =>
          obtain ⟨A, B, rfl, HMd⟩ := hrel
          rcases List.eq_nil_or_concat A with rfl | ⟨A', y, hA⟩
          · have HF := Lib.hid (HMd.out.done HRise.out (fun A' y e => by simp at e))
            have HBl := Lib.hid HMd.out.bel
            rw [show (([] : List Int).length : Int) = 0 from rfl]
            clear HMd
            go_wp2_with fail
            go_quiet (fail)
            go_wp2_with fail
            go_roundw
            case rel => exact ⟨n + 1, by omega, by go_num, by rw [HT.out]; exact HF, Lib.hid (below_drewN HBl.out nq)⟩
            case measure => simp [intOf]; omega
          · rw [List.concat_eq_append] at hA
            subst hA
            have hlen : ((A' ++ [y]) ++ x :: B).length = m + 1 := by
              have h1 := HMd.out.parts
              have h2 := HM.out
              rw [← h1] at h2
              simp at h2 ⊢
              omega
            have hr : wr.ownsRow w.heap.size 3 1 (.slice (some ⟨g2, 0, none⟩) (m + 1) c2) (m + 1) (((A' ++ [y]) ++ x :: B).map (Value.int .i64)) := hlen ▸ HMd.out.row
            have hq : A'.length + 1 < m + 1 := by rw [← hlen]; simp
            have y0 := hr.cellAt A'.length (by omega)
            have y1 := hr.cellAt (A'.length + 1) (by omega)
            have e0 : (((A' ++ [y]) ++ x :: B).map (Value.int .i64))[A'.length]? = some (.int .i64 y) := by simp
            have e1 : (((A' ++ [y]) ++ x :: B).map (Value.int .i64))[A'.length + 1]? = some (.int .i64 x) := by simp
            rw [e0] at y0
            rw [e1] at y1
            have f0 := hr.frozenAt A'.length
            have f1 := hr.frozenAt (A'.length + 1)
            rw [show ((A' ++ [y]).length : Int) = (A'.length : Int) + 1 from by simp]
            have hk0 : (0 : Int) < (A'.length : Int) + 1 := by omega
            have hk1 : (A'.length : Int) + 1 < ((m + 1 : Nat) : Int) := by omega
            have hk2 : (0 : Int) ≤ (A'.length : Int) := by omega
            have hk3 : (A'.length : Int) < ((m + 1 : Nat) : Int) := by omega
            have ht1 : ((A'.length : Int) + 1).toNat = A'.length + 1 := by omega
            clear e0 e1 hr hlen
            by_cases hy : x < y
            · have HS : Hid (∀ q, Mid w ((((wr.drewN q).drew.setCell ⟨g2, A'.length, none⟩ (.int .i64 x)).setCell ⟨g2, A'.length + 1, none⟩ (.int .i64 y))) (.slice (some ⟨g2, 0, none⟩) (m + 1) c2) R A' (y :: B) x) := Lib.hid (fun q => (HMd.out.drewN q).swap hy (by
                have h1 := HMd.out.parts
                have h2 := HM.out
                rw [← h1] at h2
                simp at h2 ⊢
                omega))
              go_wp2_with fail
              go_quiet (fail)
              go_wp2_with fail
              go_region
              all_goals go_wp2
              exact ⟨⟨A', y :: B, rfl, Lib.hid (HS.out nq)⟩, by simp [intOf]⟩
            · have HF := Lib.hid (HMd.out.done HRise.out (fun A'' y' e => by
                have := (List.append_inj' e rfl).2
                injection this with h1 h2
                rw [← h1]; exact hy))
              have HBl := Lib.hid HMd.out.bel
              clear HMd
              go_wp2_with fail
              go_quiet (fail)
              go_wp2_with fail
              go_roundw
              case rel => exact ⟨n + 1, by omega, by go_num, by rw [HT.out]; exact HF, Lib.hid (below_drewN HBl.out nq)⟩
              case measure => simp [intOf]; omega
    · obtain rfl : n = s.items.length := by omega
      have hfin := HO.out
      rw [rise_all] at hfin
      have HF := Lib.hid hfin
      clear hfin HO
      go_wp2
      go_ret
      exact ⟨_, rfl, HF.out, HB.out⟩
end
end Go.Proofs.Ytopdfhedifcalaa
