/- Contract of ranges.joined: the right list of ranges that have numbers, laid into their own row. Conditions: the slice owns its row, is short, each range has a number and begins at 0 or above, and all numbers fit. -/
import Derived.Test.YtfdmbgaincmefaaRngJ
import Derived.Test.YtfdmbgaincmefaaInRow
import Derived.Test.YtfdmbgaincmefaaChecked
import Derived.Test.YtfdmbgaincmefaaRngL
import Derived.Shelf.SlSortCmp.NoneTotal
import Derived.Shelf.SlicesG.Cmp
import Derived.ArgAppend
import Derived.RegionTactic
import Derived.Deep.RegionLaw
namespace Go.Proofs.Ytfdmbgaincmefaa
open Go.Shelf Go.RowKit Go.Lib Go.Sort

set_option maxHeartbeats 1000000 in
theorem cmp_closure (x y : Rg) (W : World) : Calls Try.prog 34 #[.agg #[.int .i64 x.1, .int .i64 x.2], .agg #[.int .i64 y.1, .int .i64 y.2]] W fun e w' => e = .returned (.int .i64 (Lib.compareInt x.1 y.1)) ∧ ∃ q os', w' = grow (W.drewN q) os' := by
  have hcon := fun W' => AnyG.cmp_Compare_int cmpLaid x.1 y.1 W'
  change ∀ W', Calls Try.prog 35 _ _ _ at hcon
  generalize Lib.compareInt x.1 y.1 = r at hcon ⊢
  go_enter Try.func34, Try.ntmps34
  go_wp2_with (go_at_call 35; refine (hcon _).mono ?_; rintro e w' ⟨rfl, rfl⟩)
  go_ret
  exact ⟨rfl, 0, _, by rw [alloc_eq_grow, alloc_eq_grow, grow_grow]; rfl⟩
theorem cmp_lays (blk off size : Nat) (w : World) : CmpLays Try.prog 34 #[] encR 2 (fun x y => Lib.compareInt x.1 y.1) blk off size w :=
  fun _ _ _ _ x y => cmp_closure x y _
theorem cmp_lt (x y : Rg) : ltOf (fun x y : Rg => Lib.compareInt x.1 y.1) x y = decide (x.1 < y.1) := by
  unfold ltOf Lib.compareInt
  by_cases h1 : x.1 < y.1
  · simp [h1]
  · by_cases h2 : y.1 < x.1 <;> simp [h1, h2]
theorem cmp_swo : SWO (ltOf fun x y : Rg => Lib.compareInt x.1 y.1) where
  irrefl x := by rw [cmp_lt]; simp
  trans x y z h1 h2 := by rw [cmp_lt] at *; simp at *; omega
  ntrans x y z h1 h2 := by rw [cmp_lt] at *; simp at *; omega

/-- Each begins where the ones behind it begin, or ahead. -/
def Asc (S : List Rg) : Prop := ∀ i j (_ : i < j) (hj : j < S.length), (S[i]'(by omega)).1 ≤ S[j].1
/-- What the sort leaves. -/
def SortAt (w : World) (g cap : Nat) (l : List Rg) (w' : World) : Prop :=
  ∃ (S : List Rg) (cs : Array Value), S.Perm l ∧ Asc S ∧ Blk w' g 30 cs ∧ cs.size = cap * 2 ∧ RowJ cs [] S 0 ∧ w.grownBy w' (some g)
theorem sort_at (l : List Rg) (g cap : Nat) (cs : Array Value) (w : World) (hb : Blk w g 30 cs) (hs : cs.size = cap * 2) (hc : l.length ≤ cap) (hl : l.length ≤ 2000000) (ht : cs.toList.take (l.length * 2) = rgv l) :
    Calls Try.prog 33 #[.slice (some ⟨g, 0, none⟩) l.length cap, .func (.func 34) #[] #[]] w fun e w' => e = .returned (.tuple #[]) ∧ SortAt w g cap l w' := by
  have eg : ∀ args w, (callFunc 34 args).run Try.prog w = .ok (.enter 34 args) w := enters_of Try.func34 (by kernel_rfl) rfl
  have hcon := AnyQ.slices_SortFunc sortLaid 2 Try.isAgg30 Try.sizeOf30 encR (fun _ => rfl) (fun x v hv => by simp [encR] at hv; rcases hv with rfl | rfl <;> rfl) (fun x y => Lib.compareInt x.1 y.1) cmp_swo 34 #[] g 0 cap l.toArray w eg (cmp_lays g 0 l.toArray.size w) (holdsK_of_block hb ht) hb.lt (by simp; omega)
  change Calls Try.prog 33 _ _ _ at hcon
  rw [List.size_toArray] at hcon
  refine hcon.mono ?_
  rintro e w' ⟨rfl, d', n, os, hp, hso, rfl⟩
  have hperm := perm_list (by rw [List.size_toArray]; exact hp)
  have hlen : d'.toList.length = l.length := hperm.length_eq
  refine ⟨rfl, d'.toList, _, hperm, ?_, blk_sorted hb d' os, by rw [size_putCells', hs], ?_, grown_sorted d' os⟩
  · intro i j hij hj
    have := hso i j (Nat.zero_le _) hij (by omega)
    rw [cmp_lt] at this
    have hj' : j < d'.size := by simpa using hj
    have hi' : i < d'.size := by omega
    rw [getElem!_pos d' j hj', getElem!_pos d' i hi'] at this
    simp at this ⊢
    omega
  · have := rowJ_sorted (cs := cs) (S := d'.toList) (by rw [hlen, hs]; omega)
    simpa using this

/-- What joined answers. -/
def JoinAt (w : World) (base : Nat) (l : List Rg) (e : Ending) (w' : World) : Prop :=
  ∃ v R, e = .returned v ∧ w'.ownsRow base 30 2 v R.length (rgv R) ∧ rightR R ∧ (∀ n, memR R n ↔ memR l n) ∧ R.length ≤ l.length ∧ Below base w w'

theorem memR_perm {S l : List Rg} (h : S.Perm l) (n : Int) : memR S n ↔ memR l n := by
  unfold memR
  constructor
  · rintro ⟨h0, r, hr, h1⟩
    exact ⟨h0, r, h.mem_iff.1 hr, h1⟩
  · rintro ⟨h0, r, hr, h1⟩
    exact ⟨h0, r, h.mem_iff.2 hr, h1⟩
theorem take_snoc {α : Type} (S : List α) (k : Nat) (h : k < S.length) : S.take (k + 1) = S.take k ++ [S[k]] := List.take_succ_eq_append_getElem h

/-- Where a round stands: k ranges read, R laid, b no greater than what comes. -/
def JoinRel (S R : List Rg) (k : Nat) : Prop := ∃ b, JoinedTo R (S.take k) b ∧ ∀ h : k < S.length, b ≤ (S[k]'h).1
theorem joinRel_next {S R : List Rg} {k : Nat} (hA : Asc S) (hk : k < S.length) (h : JoinedTo R (S.take (k + 1)) S[k].1) : JoinRel S R (k + 1) :=
  ⟨_, h, fun h1 => hA k (k + 1) (by omega) h1⟩

theorem cells_lit (w : World) (t : TypeId) (xs : List Value) (g : Nat) (hg : w.heap.size = g) : ∀ j u, xs[j]? = some u → (w.alloc (.cells xs.toArray t)).cell? ((⟨g, 0, none⟩ : Addr).add j) = some u := by
  subst hg
  exact cells_new w t xs

set_option maxHeartbeats 1600000 in
theorem joined_some (l : List Rg) (g cap base : Nat) (cs : Array Value) (w : World) (hbase : base ≤ g) (hb : Blk w g 30 cs) (hs : cs.size = cap * 2) (hc : l.length ≤ cap) (hcm : cap ≤ maxLen) (hl : l.length ≤ 2000000) (ht : cs.toList.take (l.length * 2) = rgv l)
    (hpos : ∀ r ∈ l, 0 ≤ r.1 ∧ r.1 < r.2) (hbw : base ≤ w.heap.size) :
    Calls Try.prog 27 #[.slice (some ⟨g, 0, none⟩) l.length cap] w fun e w' => JoinAt w base l e w' := by
  obtain ⟨i0, hi0, hz0, hz1, hz2⟩ := info_parts rginfo
  have HS := Lib.hid (sort_at l g cap cs w hb hs hc hl ht)
  have HB0 := Lib.hid hb
  clear hb ht hs
  go_enter Try.func27, Try.ntmps27
  go_wp2_with (go_at_call 33; refine HS.out.mono ?_; rintro e w1 ⟨rfl, S, cs1, hperm, hasc, hb1, hs1, hrow1, hg1⟩)
  have hSl : S.length = l.length := hperm.length_eq
  have HPos : Hid (∀ r ∈ S, 0 ≤ r.1 ∧ r.1 < r.2) := Lib.hid (fun r hr => hpos r (hperm.mem_iff.1 hr))
  have HMem := Lib.hid (fun n => memR_perm hperm n)
  have HAsc := Lib.hid hasc
  have HB1 : Hid (Below base w w1) := Lib.hid ((Below.refl base w).grown hg1 hbw (fun k hk => by injection hk with hk; subst hk; exact hbase))
  have hbw1 : base ≤ w1.heap.size := Nat.le_trans hbw hg1.size
  have HBlk1 := Lib.hid hb1
  have HRow1 := Lib.hid hrow1
  rw [← hSl] at hc hl
  clear hg1 hperm hasc hb1 hrow1 HS hpos HB0 hbw
  go_loopw [3, 13] (fun v i wr => ∃ (k : Nat) (R : List Rg) (cs : Array Value), k ≤ S.length ∧ R.length ≤ k ∧ i = .int .i64 k ∧ v = .slice (some ⟨g, 0, none⟩) R.length cap ∧ Hid (Blk wr g 30 cs) ∧ cs.size = cap * 2 ∧ Hid (RowJ cs R S k) ∧ Hid (JoinRel S R k) ∧ Hid (Below base w wr) ∧ base ≤ wr.heap.size) (fun _ i _ => S.length - (intOf i).toNat)
  case atStart => exact ⟨0, [], cs1, Nat.zero_le _, Nat.le_refl _, rfl, rfl, HBlk1, hs1, HRow1, Lib.hid ⟨-1, by simpa using joined_none (-1), fun h => by have := (HPos.out _ (List.getElem_mem h)).1; omega⟩, HB1, hbw1⟩
  case round =>
    obtain ⟨k, R, cs, hk, hR, rfl, rfl, HBlk, hcs, HRow, HJ, HB, hbwr⟩ := hrel
    by_cases hlt : k < S.length
    · obtain ⟨hx, hy⟩ := HRow.out.2 k hlt (Nat.le_refl _)
      rw [← HBlk.out.cell] at hx hy
      have hi : (k : Int) < (l.length : Int) := by omega
      have HP := Lib.hid (HPos.out _ (List.getElem_mem hlt))
      have HT := Lib.hid (take_snoc S k hlt)
      have hgw : g < wr.heap.size := HBlk.out.lt
      have hne : g ≠ wr.heap.size := by omega
      obtain ⟨b, hjt, hbk⟩ := HJ.out
      have HJT := Lib.hid (hjt.more (hbk hlt))
      have HNext : ∀ R', JoinedTo R' (S.take k ++ [S[k]]) S[k].1 → Hid (JoinRel S R' (k + 1)) := fun R' h => Lib.hid (joinRel_next HAsc.out hlt (by rw [HT.out]; exact h))
      have HNx := Lib.hid HNext
      clear hjt hbk HJ HNext HT
      generalize hxy : S[k] = r at *
      have HXY := Lib.hid hxy
      clear hxy
      obtain ⟨x, y⟩ := r
      simp only at hx hy
      rcases snoc_cases R with rfl | ⟨o, ⟨x0, y0⟩, rfl⟩
      · have HRow' := Lib.hid (rowJ_new HRow.out (Nat.zero_le _) (by simp only [List.length_nil]; omega) (x, y))
        have hk0 : k = 0 ∨ 0 < k := by omega
        have HJ' : Hid (JoinRel S ([] ++ [(x, y)]) (k + 1)) := HNx.out _ (joined_new HJT.out HP.out.1 HP.out.2 (fun q hq => by cases hq))
        have hc1 : 0 + 1 ≤ cap := by omega
        have hc2 : 0 * 2 + 2 ≤ cs.size := by omega
        clear HNx HJT HRow hk0
        go_wp2_with fail
        go_quiet (fail)
        go_wp2_with (at_builtin; refine wpList_append_row _ rfl (.tmp 44) (.tmp 46) 22 rfl 30 i0 Try.underlying22 hi0 hz1 g 0 cap cs rfl (((HBlk.out.alloc _).drewN _).alloc _) hc1 hc2 ⟨wr.heap.size + 1, 0, none⟩ 1 (.int .i64 x) (.int .i64 y) rfl (cells_lit _ 30 [.int .i64 x, .int .i64 y] (wr.heap.size + 1) (by simp)) (one_two x y) ?_; intro w2 hb2 hg2)
        go_roundw
        case rel =>
          exact ⟨k + 1, [] ++ [(x, y)], _, by omega, by simp, by go_num, by simp, Lib.hid hb2, by simp; exact hcs, HRow', HJ', Lib.hid (((below_drewN (HB.out.alloc hbwr _) _).alloc (by simp; omega) _).grown hg2 (by simp; omega) (fun q hq => by injection hq with hq; subst hq; exact hbase)), by have := hg2.size; simp at this; omega⟩
        case measure => simp [intOf]; omega
      · obtain ⟨hx0, hy0⟩ := HRow.out.1 o.length (by simp)
        rw [← HBlk.out.cell] at hx0 hy0
        simp at hx0 hy0
        have hl9 : (((o ++ [(x0, y0)]).length : Nat) : Int) - 1 = (o.length : Int) := by simp
        have hol : o.length + 1 ≤ k := by simp at hR; omega
        by_cases hxy0 : x ≤ y0
        · have HJ' := HNx.out _ (joined_on HJT.out hxy0)
          have HRow' := Lib.hid (rowJ_on HRow.out hol (by omega) (max y0 y))
          have hfr := HBlk.out.frozen (o.length * 2 + 1)
          clear HNx HJT HRow
          go_wp2_with fail
          go_quiet (fail)
          go_wp2_with fail
          go_region
          go_wp2_with fail
          go_roundw
          case rel =>
            exact ⟨k + 1, o ++ [(x0, max y0 y)], _, by omega, by simp; omega, by go_num, by simp, Lib.hid (((HBlk.out.alloc _).drewN _).set_ _ _), by simp; exact hcs, HRow', HJ', Lib.hid ((below_drewN (HB.out.alloc hbwr _) _).setCell hbase _), by simp [World.setCell]; omega⟩
          case measure => simp [intOf]; omega
        · have hyx : y0 < x := by omega
          have HJ' := HNx.out _ (joined_new HJT.out HP.out.1 HP.out.2 (fun q hq => by have := last_greatest HJT.out.1 q hq; show q.2 < x; omega))
          have HRow' := Lib.hid (rowJ_new HRow.out hR (by simp; omega) (x, y))
          simp only [List.length_append, List.length_cons, List.length_nil, Nat.zero_add] at HRow'
          have hc1 : o.length + 1 + 1 ≤ cap := by omega
          have hc2 : (o.length + 1) * 2 + 2 ≤ cs.size := by omega
          clear HNx HJT HRow hxy0
          go_wp2_with fail
          go_quiet (fail)
          go_wp2_with (at_builtin; refine wpList_append_row _ rfl (.tmp 44) (.tmp 46) 22 rfl 30 i0 Try.underlying22 hi0 hz1 g (o.length + 1) cap cs rfl (((HBlk.out.alloc _).drewN _).alloc _) hc1 hc2 ⟨wr.heap.size + 1, 0, none⟩ 1 (.int .i64 x) (.int .i64 y) rfl (cells_lit _ 30 [.int .i64 x, .int .i64 y] (wr.heap.size + 1) (by simp)) (one_two x y) ?_; intro w2 hb2 hg2)
          go_roundw
          case rel =>
            exact ⟨k + 1, o ++ [(x0, y0)] ++ [(x, y)], _, by omega, by simp; omega, by go_num, by simp, Lib.hid hb2, by simp; exact hcs, HRow', HJ', Lib.hid (((below_drewN (HB.out.alloc hbwr _) _).alloc (by simp; omega) _).grown hg2 (by simp; omega) (fun q hq => by injection hq with hq; subst hq; exact hbase)), by have := hg2.size; simp at this; omega⟩
          case measure => simp [intOf]; omega
    · obtain rfl : k = S.length := by omega
      obtain ⟨b, hj, _⟩ := HJ.out
      rw [List.take_length] at hj
      have HE := Lib.hid hj
      have HOwn := Lib.hid (rowJ_own HBlk.out hbase (by omega) hcm hcs HRow.out)
      clear hj HJ
      go_wp2
      go_ret
      exact ⟨_, R, rfl, HOwn.out, HE.out.1, fun n => (HE.out.2.1 n).trans (HMem.out n), by omega, HB.out⟩

set_option maxHeartbeats 800000 in
theorem joined_none_any (base : Nat) (w : World) :
    Calls Try.prog 27 #[.slice none 0 0] w fun e w' => JoinAt w base [] e w' := by
  have HC := fun W => AnyF.slices_SortFunc_none { sortLaid with } none 0 (.func (.func 34) #[] #[]) W
  change ∀ W, Calls Try.prog 33 _ _ _ at HC
  go_enter Try.func27, Try.ntmps27
  go_wp2_with (go_at_call 33; refine (HC _).mono ?_; rintro e w1 ⟨rfl, rfl⟩)
  refine wp_loop_rounds 1 ?_
  rw [rounds_succ]
  go_wp2
  go_ret
  exact ⟨_, [], rfl, own_nil _ _ _ _, trivial, fun _ => Iff.rfl, Nat.le_refl _, Below.refl _ _⟩

theorem joined_any (l : List Rg) (v : Value) (base : Nat) (w : World) (hbw : base ≤ w.heap.size) (hl : l.length ≤ 2000000) (hpos : ∀ r ∈ l, 0 ≤ r.1 ∧ r.1 < r.2) (h : w.ownsRow base 30 2 v l.length (rgv l)) :
    Calls Try.prog 27 #[v] w fun e w' => JoinAt w base l e w' := by
  rcases h.2 with ⟨rfl, h0⟩ | ⟨g, cap, cs, rfl, hg, hh, hc, hm, hs, ht⟩
  · obtain rfl := List.eq_nil_of_length_eq_zero h0
    exact joined_none_any base w
  · exact joined_some l g cap base cs w hg hh hs hc hm hl ht hpos hbw
end Go.Proofs.Ytfdmbgaincmefaa
