/- Contracts of the landed disk: Write, Cut. Conditions: the disk is in memory as named; its numbers are within bounds. -/
import Derived.Test.YtoihkanneiknkaaDlL
namespace Go.Proofs.Ytoihkanneiknkaa
open Go.RowKit Go.Maps
attribute [local go_sem ↓] Go.wp_at_zero Go.wp_at_succ

theorem reads_off {w w' : World} {F : Nat → Prop} {sz n : Nat} {A : Option Addr} {xs : List Value} (h : Reads w w.heap.size sz A n xs) (ho : Only F w w') (hs : ∀ ad, A = some ad → ¬ F ad.block) : Reads w' w'.heap.size sz A n xs :=
  ⟨h.1, fun h0 => by
    obtain ⟨ad, had, hb, hc⟩ := h.2 h0
    exact ⟨ad, had, Nat.lt_of_lt_of_le hb ho.size, fun j u hu => (ho.cell (by rw [block_of_add]; exact hb) (by rw [block_of_add]; exact hs ad had)).trans (hc j u hu)⟩⟩
theorem le_sum {α : Type} (g : α → Nat) {l : List α} {x : α} (h : x ∈ l) : g x ≤ (l.map g).sum := by
  induction l with
  | nil => cases h
  | cons y l ih =>
    rw [List.map_cons, List.sum_cons]
    rcases List.mem_cons.1 h with rfl | h
    · omega
    · have := ih h; omega
theorem short_of {L : LMem} (hf : L.Fine) : L.st.Short := fun f hf' => by
  have h1 : f.now.length ≤ L.st.sum := le_sum (fun f : RF => f.now.length) hf'
  have := hf.sum
  omega
/-- A call has ended behind new pieces. -/
theorem lop_wait {F : Nat → Prop} {p : Nat} {L2 : LMem} {prs : List PR} {w w2 w3 w4 : World} {e : Ending} (ho2 : Only F w w2) (hb3 : Below w2.heap.size w2 w3) (h4 : WaitAt (fun k => (F k ∧ k < w2.heap.size) ∨ (w2.heap.size ≤ k ∧ k < w3.heap.size ∧ Kind w3 5 k)) p L2 prs w3 e w4) (s : RD)
    (hst : { ((prs.map PR.toP).foldl waitOne L2.st) with pend := L2.st.pend ++ prs.map PR.toP } = s) : (∃ L', DiskM w4 (Gr F w w4) p L' ∧ L'.st = s) ∧ Only F w w4 := by
  obtain ⟨-, ⟨L', hd, hs⟩, ho⟩ := h4
  have hs3 := hb3.size
  have hs2 := ho2.size
  have hs4 := ho.size
  refine ⟨⟨L', hd.mono fun k hk => ?_, hs.trans hst⟩, ?_⟩
  · rcases hk with (hk | hk) | hk
    · exact .inl hk.1
    · exact .inr ⟨by omega, by omega⟩
    · exact .inr ⟨by omega, hk.2⟩
  · have h1 : Only F w2 w3 := Only.of_below hb3
    have h2 : Only F w w3 := ho2.trans h1 fun _ _ h => h
    exact h2.trans ho fun j hj hg => by
      rcases hg with hg | hg
      · exact hg.1
      · omega
theorem fits_cases (s : RD) (nm : ByteArray) (n : Nat) : s.fits nm n = 0 ∨ s.fits nm n = 7 ∨ s.fits nm n = 11 := by
  unfold RD.fits
  split
  · exact .inr (.inr rfl)
  · split
    · exact .inr (.inl rfl)
    · exact .inl rfl
theorem askN_cases (s : RD) (nm : ByteArray) : (askN s nm = 0 ∧ named nm = true ∧ s.down = false) ∨ (askN s nm = 1 ∧ named nm = false) ∨ (askN s nm = 8 ∧ named nm = true ∧ s.down = true) := by
  unfold askN
  rcases named nm with _ | _
  · exact .inr (.inl (by simp))
  · rcases s.down with _ | _
    · exact .inl (by simp)
    · exact .inr (.inr (by simp))
theorem lsize_max (s : RD) (nm : ByteArray) (h3 : named nm = true) (h4 : s.down = false) : max (s.lsize nm) 0 = (s.had nm : Int) := by
  unfold RD.lsize
  by_cases h : s.find nm = none
  · rw [if_pos (.inr (.inr h))]
    have : s.had nm = 0 := by unfold RD.had; rw [h]
    rw [this]
    rfl
  · rw [if_neg (by rw [h3, h4]; intro hx; rcases hx with hx | hx | hx
                   · cases hx
                   · cases hx
                   · exact h hx)]
    omega
theorem named_size {nm : ByteArray} (h : named nm = true) : nm.size ≤ 16 := by
  unfold named at h
  simp only [Bool.and_eq_true, decide_eq_true_eq] at h
  exact h.1.2

set_option maxRecDepth 100000 in
set_option maxHeartbeats 4000000 in
theorem lwrite_any (nm : ByteArray) (at' : Int) (b : List UInt8) (A : Option Addr) (c : Nat) (F : Nat → Prop) (p : Nat) (L : LMem) (w : World) (h : DiskM w F p L) (hf : L.Fine) (hpl : L.pr.length ≤ 1000000) (hn : nm.size ≤ 9223372036854775807) (ha : -9223372036854775808 ≤ at' ∧ at' ≤ 9223372036854775807) (hb : b.length ≤ 1073741824)
    (hr : Reads w w.heap.size 1 A b.length (bv b)) (hs : ∀ ad, A = some ad → ¬ F ad.block) :
    Calls Try.prog 15 #[.pointer (some ⟨p, 0, none⟩), .string nm, .int .i64 at', .slice A b.length c] w fun e w' => LOp F p (L.st.write nm at' b).1 (L.st.write nm at' b).2 w e w' := by
  have HA := Lib.hid (asked_any nm F p L w h hn)
  have HD := Lib.hid h
  have HF := Lib.hid hf
  have HSm := Lib.hid (fun n => lop_same (n := n) h)
  rcases askN_cases L.st nm with ⟨h1, h3, h4⟩ | ⟨h1, h3⟩ | ⟨h1, h3, h4⟩
  all_goals rw [h1] at HA
  · have HSz := Lib.hid (size_any nm F p L w h hn)
    have hmax := lsize_max L.st nm h3 h4
    have hhad := Nat.le_trans (lhad_le h.srt nm) hf.sum
    have HW : Hid (L.st.write nm at' b = if at' < 0 ∨ (L.st.had nm : Int) < at' then (L.st, 2) else if b = [] then (L.st, 0) else
        if L.st.fits nm (max (L.st.had nm) (at'.toNat + b.length)) ≠ 0 then (L.st, L.st.fits nm (max (L.st.had nm) (at'.toNat + b.length))) else
        if L.st.stops = true then (L.st.off, 8) else
        ({ ((L.st.ticked.made nm).setF (L.st.at_ nm) fun f => { f with now := layB f.now at'.toNat b }) with pend := ((L.st.ticked.made nm).setF (L.st.at_ nm) fun f => { f with now := layB f.now at'.toNat b }).pend ++ pieces nm at'.toNat b }, 0)) := Lib.hid (by
      unfold RD.write
      rw [if_neg (by rw [h3]; simp), if_neg (by rw [h4]; simp)])
    have HFits := Lib.hid (fun size hsz => lfits_any nm size F p L w h hf hn hsz)
    have hnm := named_size h3
    clear h h1 h3 h4
    generalize hz : L.st.lsize nm = z at *
    generalize hhd : L.st.had nm = hd at *
    have HHd := Lib.hid hhd
    clear hz hhd
    obtain ⟨ha1, ha2⟩ := ha
    by_cases hbad : at' < 0 ∨ (hd : Int) < at'
    · rw [if_pos hbad] at HW
      rw [HW.out]
      rcases hbad with q1 | q1
      · go_enter Try.func15, Try.ntmps15
        go_wp2_with (first | (go_at_call 43; refine HA.out.mono ?_; rintro e w' ⟨rfl, rfl⟩) | (go_at_call 19; refine HSz.out.mono ?_; rintro e w' ⟨rfl, rfl⟩))
        go_ret
        exact HSm.out 2
      · have q2 : 0 ≤ at' := by omega
        go_enter Try.func15, Try.ntmps15
        go_wp2_with (first | (go_at_call 43; refine HA.out.mono ?_; rintro e w' ⟨rfl, rfl⟩) | (go_at_call 19; refine HSz.out.mono ?_; rintro e w' ⟨rfl, rfl⟩))
        go_ret
        exact HSm.out 2
    · rw [if_neg hbad] at HW
      have q1 : 0 ≤ at' := by omega
      have q2 : at' ≤ (hd : Int) := by omega
      obtain ⟨a, rfl⟩ : ∃ a : Nat, at' = a := ⟨at'.toNat, by omega⟩
      simp only [Int.toNat_natCast] at HW
      clear hbad
      by_cases hb0 : b = []
      · rw [if_pos hb0] at HW
        subst hb0
        rw [HW.out]
        go_enter Try.func15, Try.ntmps15
        go_wp2_with (first | (go_at_call 43; refine HA.out.mono ?_; rintro e w' ⟨rfl, rfl⟩) | (go_at_call 19; refine HSz.out.mono ?_; rintro e w' ⟨rfl, rfl⟩))
        go_ret
        exact HSm.out 0
      · rw [if_neg hb0] at HW
        have hb1 : 0 < b.length := List.length_pos_iff.2 hb0
        have hlen0 : ((b.length : Int) == 0) = false := beq_eq_false_iff_ne.2 (by omega)
        have hFit := HFits.out (max hd (a + b.length)) (by omega)
        have ecast : ((max hd (a + b.length) : Nat) : Int) = max (hd : Int) ((a : Int) + (b.length : Int)) := by omega
        rw [ecast] at hFit
        have HFit := Lib.hid hFit
        clear hFit ecast
        rcases fits_cases L.st nm (max hd (a + b.length)) with he | he | he
        rotate_left
        · rw [he] at HFit HW
          simp only [ne_eq, show (7 : Nat) ≠ 0 from by decide, not_false_eq_true, if_true] at HW
          have HEnd := Lib.hid (fun w1 (hb : Below w.heap.size w w1) => (show LOp F p L.st 7 w (.returned (.int .i64 ((7 : Nat) : Int))) w1 from ⟨rfl, ⟨L, (HD.out.below hb).mono fun k hk => .inl hk, rfl⟩, Only.of_below hb⟩))
          rw [HW.out]
          clear he hb0
          go_enter Try.func15, Try.ntmps15
          go_wp2_with (first | (go_at_call 43; refine HA.out.mono ?_; rintro e w' ⟨rfl, rfl⟩) | (go_at_call 19; refine HSz.out.mono ?_; rintro e w' ⟨rfl, rfl⟩) | (go_at_call 39; refine HFit.out.mono ?_; rintro e w1 ⟨rfl, hb1⟩))
          go_ret
          exact HEnd.out w1 hb1
        · rw [he] at HFit HW
          simp only [ne_eq, show (11 : Nat) ≠ 0 from by decide, not_false_eq_true, if_true] at HW
          have HEnd := Lib.hid (fun w1 (hb : Below w.heap.size w w1) => (show LOp F p L.st 11 w (.returned (.int .i64 ((11 : Nat) : Int))) w1 from ⟨rfl, ⟨L, (HD.out.below hb).mono fun k hk => .inl hk, rfl⟩, Only.of_below hb⟩))
          rw [HW.out]
          clear he hb0
          go_enter Try.func15, Try.ntmps15
          go_wp2_with (first | (go_at_call 43; refine HA.out.mono ?_; rintro e w' ⟨rfl, rfl⟩) | (go_at_call 19; refine HSz.out.mono ?_; rintro e w' ⟨rfl, rfl⟩) | (go_at_call 39; refine HFit.out.mono ?_; rintro e w1 ⟨rfl, hb1⟩))
          go_ret
          exact HEnd.out w1 hb1
        · rw [he] at HFit HW
          simp only [ne_eq, not_true_eq_false, if_false] at HW
          clear he
          have HChg := Lib.hid (fun w1 (hb : Below w.heap.size w w1) => lchange_any F p L w1 (HD.out.below hb) HF.out.chg HF.out.left)
          rcases hst : L.st.stops with _ | _
          · simp only [hst, Bool.false_eq_true, if_false] at HW HChg
            have HTick := Lib.hid (ltick_st L)
            rw [hst] at HTick
            simp only [Bool.false_eq_true, if_false] at HTick
            have HPc : Hid (∀ w2, Only F w w2 → Calls Try.prog 46 #[.string nm, .int .i64 (a : Int), .slice A b.length c] w2 fun e w' => PiecesAt nm a b w2 e w') := Lib.hid (fun w2 ho2 => pieces_any nm a b A c w2 (by omega) (reads_off hr ho2 hs))
            have HFin : Hid (∀ (w2 w3 : World) prs (v3 : Value), DiskM w2 F p L.tick → Only F w w2 → w3.ownsRow w2.heap.size 88 4 v3 prs.length (flat encP prs) → prs.map PR.toP = pieces nm a b → (∀ q ∈ prs, PB w3 (fun k => w2.heap.size ≤ k ∧ k < w3.heap.size ∧ Kind w3 5 k) q) → Below w2.heap.size w2 w3 →
                Calls Try.prog 45 #[.pointer (some ⟨p, 0, none⟩), v3] w3 fun e w' => e = .returned (.tuple #[]) ∧ LOp F p (L.st.write nm (a : Int) b).1 0 w (.returned (.int .i64 ((0 : Nat) : Int))) w') := Lib.hid (fun w2 w3 prs v3 hd2 ho2 hv3 hmap hpb hb3 => by
              have hd3 : DiskM w3 (fun k => (F k ∧ k < w2.heap.size) ∨ (w2.heap.size ≤ k ∧ k < w3.heap.size ∧ Kind w3 5 k)) p L.tick := (hd2.old.below hb3).mono fun k hk => .inl hk
              have hqm : ∀ q ∈ prs, q.toP ∈ pieces nm a b := fun q hq => by rw [← hmap]; exact List.mem_map.2 ⟨q, hq, rfl⟩
              have hends : ∀ q ∈ prs, q.at' + q.b.length ≤ a + b.length := fun q hq => piecesTo_ends nm a b b.length q.toP (hqm q hq)
              have hlenp : prs.length ≤ b.length := by
                have h1 := (piecesTo_le nm a b b.length).2
                have h2 := congrArg List.length hmap
                rw [List.length_map] at h2
                unfold pieces at h2
                omega
              have htk := ltick_fr L
              have h1 := lwait_any prs v3 _ p L.tick w3 hd3 (fun k hk => by
                have := hb3.size
                rcases hk with hk | hk
                · omega
                · exact hk.2.1) (own_base hv3 (Nat.zero_le _)) (fun k hk e => by
                have h2 := (hv3.lt k hk).1
                rcases e with e | e
                · omega
                · exact (own_kind hv3 hk).ne e.2.2 (by decide) rfl) (fun q hq => (hpb q hq).mono fun k hk => .inr hk) (fun q hq k hk x hx e => by
                have h2 := ((hpb q hq).own hk).2.1
                have h3 := ((hd2.file x hx).own e).1.lt
                omega) (fun q hq => by
                have h2 := ((pieces_on nm a b (List.replicate a 0) (by simp)).1 q.toP (hqm q hq)).1
                have h3 : q.name = nm := h2
                rw [h3]; omega) (fun q hq => by have := hends q hq; omega) (by
                rw [HTick.out]
                exact short_of HF.out) (by rw [htk.1]; have := HF.out.few; omega) (by rw [htk.2.1]; omega)
              refine h1.mono fun e w4 h4 => ⟨h4.1, ?_⟩
              have h5 := lop_wait ho2 hb3 h4 (L.st.write nm (a : Int) b).1 (by
                rw [HW.out, hmap, HTick.out]
                have h6 := write_fold L.st.ticked nm a b hb0 (by
                  show L.st.names.Pairwise bLt
                  rw [lst_names]
                  exact HD.out.srt) (by show a ≤ L.st.had nm; rw [HHd.out]; omega)
                rw [h6]
                have e7 : ((L.st.ticked.made nm).setF (L.st.at_ nm) fun f => { f with now := layB f.now a b }).pend = L.st.pend := by
                  unfold RD.made
                  split <;> rfl
                show _ = ({ ((L.st.ticked.made nm).setF (L.st.at_ nm) fun f => { f with now := layB f.now a b }) with pend := ((L.st.ticked.made nm).setF (L.st.at_ nm) fun f => { f with now := layB f.now a b }).pend ++ pieces nm a b } : RD)
                rw [e7]
                rfl)
              exact ⟨rfl, h5.1, h5.2⟩)
            rw [show (L.st.write nm (a : Int) b).2 = 0 from by rw [HW.out]]
            clear hst hb0 hr hs
            go_enter Try.func15, Try.ntmps15
            go_wp2_with (first | (go_at_call 43; refine HA.out.mono ?_; rintro e w' ⟨rfl, rfl⟩) | (go_at_call 19; refine HSz.out.mono ?_; rintro e w' ⟨rfl, rfl⟩) | (go_at_call 39; refine HFit.out.mono ?_; rintro e w1 ⟨rfl, hb1⟩; have HB1 := Lib.hid hb1; clear hb1) | (go_at_call 44; refine (HChg.out _ HB1.out).mono ?_; rintro e w2 ⟨rfl, hd2, ho2⟩; have HD2 := Lib.hid hd2; have HO2 : Hid (Only F w w2) := Lib.hid ((Only.of_below HB1.out : Only F w w1).trans ho2 fun _ _ h => h); clear hd2 ho2) | (go_at_call 46; refine (HPc.out _ HO2.out).mono ?_; rintro e w3 ⟨v3, prs, rfl, hv3, hmap, hpb, hb3⟩; have HWt := Lib.hid (HFin.out w2 w3 prs v3 HD2.out HO2.out hv3 hmap hpb hb3); clear hv3 hmap hpb hb3) | (go_at_call 45; refine HWt.out.mono ?_; rintro e w4 ⟨rfl, hend⟩; have HEnd := Lib.hid hend; clear hend))
            go_ret
            exact HEnd.out
          · simp only [hst, if_true] at HW HChg
            have HTick := Lib.hid (ltick_st L)
            rw [hst] at HTick
            simp only [if_true] at HTick
            rw [HW.out]
            clear hst hb0
            go_enter Try.func15, Try.ntmps15
            go_wp2_with (first | (go_at_call 43; refine HA.out.mono ?_; rintro e w' ⟨rfl, rfl⟩) | (go_at_call 19; refine HSz.out.mono ?_; rintro e w' ⟨rfl, rfl⟩) | (go_at_call 39; refine HFit.out.mono ?_; rintro e w1 ⟨rfl, hb1⟩; have HB1 := Lib.hid hb1; clear hb1) | (go_at_call 44; refine (HChg.out _ HB1.out).mono ?_; rintro e w2 ⟨rfl, hd2, ho2⟩))
            go_ret
            exact ⟨rfl, ⟨L.tick, hd2.mono fun k hk => .inl hk, HTick.out⟩, (Only.of_below HB1.out : Only F w w1).trans ho2 fun _ _ h => h⟩
  · have HW : Hid (L.st.write nm at' b = (L.st, 1)) := Lib.hid (by unfold RD.write; rw [if_pos h3])
    rw [HW.out]
    clear h h1 h3
    go_enter Try.func15, Try.ntmps15
    go_wp2_with (go_at_call 43; refine HA.out.mono ?_; rintro e w' ⟨rfl, rfl⟩)
    go_ret
    exact HSm.out 1
  · have HW : Hid (L.st.write nm at' b = (L.st, 8)) := Lib.hid (by unfold RD.write; rw [if_neg (by rw [h3]; simp), if_pos h4])
    rw [HW.out]
    clear h h1 h3 h4
    go_enter Try.func15, Try.ntmps15
    go_wp2_with (go_at_call 43; refine HA.out.mono ?_; rintro e w' ⟨rfl, rfl⟩)
    go_ret
    exact HSm.out 8
end Go.Proofs.Ytoihkanneiknkaa
