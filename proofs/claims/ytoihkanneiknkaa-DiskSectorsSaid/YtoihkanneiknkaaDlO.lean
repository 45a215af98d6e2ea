/- Contracts of the landed disk: Cut, Sync. Conditions: the disk is in memory as named; its numbers are within bounds; what is seen is what is safe with all that waits. -/
import Derived.Test.YtoihkanneiknkaaDlN
namespace Go.Proofs.Ytoihkanneiknkaa
open Go.RowKit Go.Maps
attribute [local go_sem ↓] Go.wp_at_zero Go.wp_at_succ

theorem own_lit (w : World) (cs : Array Value) (hc : cs.size = 4) (g : Nat) (hg : w.heap.size = g) : (w.alloc (.cells cs 88)).ownsRow 0 88 4 (.slice (some ⟨g, 0, none⟩) 1 1) 1 cs.toList := by
  subst hg
  exact ⟨by simpa using hc, .inr ⟨w.heap.size, 1, cs, rfl, Nat.zero_le _, heap_alloc_new w _, Nat.le_refl _, by simp [maxLen], by omega, by rw [List.take_of_length_le (by simp; omega)]⟩⟩
theorem thereN_up {L : LMem} {nm : ByteArray} {k : Nat} (hk : L.st.find nm = some k) : ∃ f, getF L.fr nm = some f := by
  rcases h : getF L.fr nm with _ | f
  · rw [getF_find_none h] at hk; cases hk
  · exact ⟨f, rfl⟩

set_option maxRecDepth 100000 in
set_option maxHeartbeats 4000000 in
theorem lcut_any (nm : ByteArray) (n : Int) (F : Nat → Prop) (p : Nat) (L : LMem) (w : World) (h : DiskM w F p L) (hf : L.Fine) (hpl : L.pr.length ≤ 1000000) (hn : nm.size ≤ 9223372036854775807) (hnn : -9223372036854775808 ≤ n ∧ n ≤ 9223372036854775807) :
    Calls Try.prog 23 #[.pointer (some ⟨p, 0, none⟩), .string nm, .int .i64 n] w fun e w' => LOp F p (L.st.cut nm n).1 (L.st.cut nm n).2 w e w' := by
  have HT := Lib.hid (there_any nm F p L w h hn)
  have HD := Lib.hid h
  have HF := Lib.hid hf
  have HSm := Lib.hid (fun n => lop_same (n := n) h)
  have hhad := Nat.le_trans (lhad_le h.srt nm) hf.sum
  clear h
  rcases thereN_cases L nm with ⟨h1, ⟨f, hg, h2⟩, h3, h4⟩ | ⟨h1, h2, hg, h3, h4⟩ | ⟨h1, h2, h3⟩ | ⟨h1, h2, h3, h4⟩
  all_goals rw [h1, h2] at HT
  · have hfm := (getF_some hg).1
    have d0 := (HD.out.file f hfm).cells.1
    obtain ⟨A1, cc1, hnv, hlc1, hcm1, -⟩ := (HD.out.file f hfm).now.value
    rw [hnv] at d0
    have hh := getF_had_some HD.out.srt hg
    obtain ⟨i, hi, hie, hif⟩ := getF_find_some HD.out.srt hg
    have HW : Hid (L.st.cut nm n = if n < 0 ∨ (f.now.length : Int) < n then (L.st, 2) else if L.st.stops = true then (L.st.off, 8) else
        ({ (L.st.ticked.setF i fun f => { f with now := f.now.take n.toNat }) with pend := (L.st.ticked.setF i fun f => { f with now := f.now.take n.toNat }).pend ++ [⟨nm, n.toNat, [], true⟩] }, 0)) := Lib.hid (by
      unfold RD.cut
      rw [if_neg (by rw [h3]; simp), if_neg (by rw [h4]; simp), hif, hh])
    rw [hh] at hhad
    have hsz := named_size h3
    have HIf := Lib.hid hif
    have HG := Lib.hid hg
    clear h1 h2 h3 h4 hg hnv hfm hh hi hie hif
    have HFg : Hid (∃ f', f' = f) := Lib.hid ⟨f, rfl⟩
    generalize hnw : f.now = now at *
    have HNow := Lib.hid hnw
    clear hnw
    generalize hgg : f.g = g at *
    have HGg := Lib.hid hgg
    clear hgg
    obtain ⟨hn1, hn2⟩ := hnn
    by_cases hbad : n < 0 ∨ (now.length : Int) < n
    · rw [if_pos hbad] at HW
      rw [HW.out]
      have hways : n < 0 ∨ 0 ≤ n ∧ (now.length : Int) < n := by omega
      clear hbad
      rcases hways with q1 | ⟨q1, q2⟩
      all_goals
        go_enter Try.func23, Try.ntmps23
        go_wp2_with (go_at_call 47; refine HT.out.mono ?_; rintro e w' ⟨rfl, rfl⟩)
        go_ret
        exact HSm.out 2
    · rw [if_neg hbad] at HW
      have q1 : 0 ≤ n := by omega
      have q2 : n ≤ (now.length : Int) := by omega
      obtain ⟨m, rfl⟩ : ∃ m : Nat, n = m := ⟨n.toNat, by omega⟩
      simp only [Int.toNat_natCast] at HW
      clear hbad
      have HChg := Lib.hid (lchange_any F p L w HD.out HF.out.chg HF.out.left)
      rcases hst : L.st.stops with _ | _
      · simp only [hst, Bool.false_eq_true, if_false] at HW HChg
        have HTick := Lib.hid (ltick_st L)
        rw [hst] at HTick
        simp only [Bool.false_eq_true, if_false] at HTick
        have HFin : Hid (∀ w2 g2, w2.heap.size = g2 → DiskM w2 F p L.tick → Only F w w2 → Calls Try.prog 45 #[.pointer (some ⟨p, 0, none⟩), .slice (some ⟨g2, 0, none⟩) 1 1] (w2.alloc (.cells #[.string nm, .int .i64 (m : Int), .slice none 0 0, .bool true] 88)) fun e w' => e = .returned (.tuple #[]) ∧ LOp F p (L.st.cut nm (m : Int)).1 0 w (.returned (.int .i64 ((0 : Nat) : Int))) w') := Lib.hid (fun w2 g2 hg2 hd2 ho2 => by
          have hb3 : Below w2.heap.size w2 (w2.alloc (.cells #[.string nm, .int .i64 (m : Int), .slice none 0 0, .bool true] 88)) := (Below.refl _ _).alloc (Nat.le_refl _) _
          have hrow := own_lit w2 #[.string nm, .int .i64 (m : Int), .slice none 0 0, .bool true] rfl g2 hg2
          have hd3 := (hd2.old.below hb3).mono (G := fun k => (F k ∧ k < w2.heap.size) ∨ (w2.heap.size ≤ k ∧ k < (w2.alloc (.cells #[.string nm, .int .i64 (m : Int), .slice none 0 0, .bool true] 88)).heap.size ∧ Kind (w2.alloc (.cells #[.string nm, .int .i64 (m : Int), .slice none 0 0, .bool true] 88)) 5 k)) fun k hk => .inl hk
          have htk := ltick_fr L
          have h1 := lwait_any [⟨nm, m, .slice none 0 0, [], true⟩] (.slice (some ⟨g2, 0, none⟩) 1 1) _ p L.tick _ hd3 (fun k hk => by
            have := hb3.size
            rcases hk with hk | hk
            · omega
            · exact hk.2.1) hrow (fun k hk e => by
            have h2 : g2 = k := by simpa [Value.ownBlock] using hk
            rcases e with e | e
            · omega
            · exact (own_kind hrow hk).ne e.2.2 (by decide) rfl) (fun q hq => by
            simp at hq
            subst hq
            exact ⟨none, 0, rfl, Nat.le_refl _, ⟨rfl, fun h => absurd h (by simp)⟩, fun ad e => by cases e⟩) (fun q hq k hk => by
            simp at hq
            subst hq
            simp [Value.ownBlock] at hk) (fun q hq => by
            simp at hq
            subst hq
            exact hn) (fun q hq => by
            simp at hq
            subst hq
            show m + 0 ≤ _
            omega) (by
            rw [HTick.out]
            exact short_of HF.out) (by rw [htk.1]; have := HF.out.few; simp; omega) (by rw [htk.2.1]; simp; omega)
          refine h1.mono fun e w4 h4 => ⟨h4.1, ?_⟩
          have h5 := lop_wait ho2 hb3 h4 (L.st.cut nm (m : Int)).1 (by
            rw [HW.out, HTick.out]
            show ({ (waitOne L.st.ticked ⟨nm, m, [], true⟩) with pend := L.st.ticked.pend ++ [⟨nm, m, [], true⟩] } : RD) = _
            have e2 : L.st.ticked.made nm = L.st.ticked := by
              unfold RD.made
              have : L.st.ticked.find nm = some i := HIf.out
              rw [this]
            have e3 : waitOne L.st.ticked ⟨nm, m, [], true⟩ = L.st.ticked.setF i fun f => { f with now := f.now.take m } := by
              unfold waitOne
              rw [show (⟨nm, m, [], true⟩ : RP).name = nm from rfl, e2]
              exact upN_setF L.st.ticked nm _ (by show L.st.names.Pairwise bLt; rw [lst_names]; exact HD.out.srt) HIf.out
            rw [e3]
            rfl)
          exact ⟨rfl, h5.1, h5.2⟩)
        rw [show (L.st.cut nm (m : Int)).2 = 0 from by rw [HW.out]]
        clear hst
        go_enter Try.func23, Try.ntmps23
        go_wp2_with (first | (go_at_call 47; refine HT.out.mono ?_; rintro e w' ⟨rfl, rfl⟩) | (go_at_call 44; refine HChg.out.mono ?_; rintro e w2 ⟨rfl, hd2, ho2⟩; have HWt := Lib.hid (HFin.out w2 _ rfl hd2 ho2); clear hd2 ho2) | (go_at_call 45; refine HWt.out.mono ?_; rintro e w4 ⟨rfl, hend⟩; have HEnd := Lib.hid hend; clear hend))
        go_ret
        exact HEnd.out
      · simp only [hst, if_true] at HW HChg
        have HTick := Lib.hid (ltick_st L)
        rw [hst] at HTick
        simp only [if_true] at HTick
        rw [HW.out]
        clear hst
        go_enter Try.func23, Try.ntmps23
        go_wp2_with (first | (go_at_call 47; refine HT.out.mono ?_; rintro e w' ⟨rfl, rfl⟩) | (go_at_call 44; refine HChg.out.mono ?_; rintro e w2 ⟨rfl, hd2, ho2⟩))
        go_ret
        exact ⟨rfl, ⟨L.tick, hd2.mono fun k hk => .inl hk, HTick.out⟩, ho2⟩
  · have HW : Hid (L.st.cut nm n = (L.st, 6)) := Lib.hid (by unfold RD.cut; rw [if_neg (by rw [h3]; simp), if_neg (by rw [h4]; simp), getF_find_none hg])
    rw [HW.out]
    clear h1 h2 h3 h4 hg
    go_enter Try.func23, Try.ntmps23
    go_wp2_with (go_at_call 47; refine HT.out.mono ?_; rintro e w' ⟨rfl, rfl⟩)
    go_ret
    exact HSm.out 6
  · have HW : Hid (L.st.cut nm n = (L.st, 1)) := Lib.hid (by unfold RD.cut; rw [if_pos h3])
    rw [HW.out]
    clear h1 h2 h3
    go_enter Try.func23, Try.ntmps23
    go_wp2_with (go_at_call 47; refine HT.out.mono ?_; rintro e w' ⟨rfl, rfl⟩)
    go_ret
    exact HSm.out 1
  · have HW : Hid (L.st.cut nm n = (L.st, 8)) := Lib.hid (by unfold RD.cut; rw [if_neg (by rw [h3]; simp), if_pos h4])
    rw [HW.out]
    clear h1 h2 h3 h4
    go_enter Try.func23, Try.ntmps23
    go_wp2_with (go_at_call 47; refine HT.out.mono ?_; rintro e w' ⟨rfl, rfl⟩)
    go_ret
    exact HSm.out 8
end Go.Proofs.Ytoihkanneiknkaa
