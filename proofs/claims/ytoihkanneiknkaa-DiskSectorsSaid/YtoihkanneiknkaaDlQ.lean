/- Contract of the landed disk's Load. Conditions: the disk is in memory as named; its numbers are within bounds. -/
import Derived.Test.YtoihkanneiknkaaDlP
namespace Go.Proofs.Ytoihkanneiknkaa
open Go.RowKit Go.Maps
attribute [local go_sem ↓] Go.wp_at_zero Go.wp_at_succ

theorem upN_made_setF (s : RD) (nm : ByteArray) (g : RF → RF) (hs : s.names.Pairwise bLt) : (s.made nm).upN nm g = (s.made nm).setF (s.at_ nm) g := upN_setF _ nm g (made_sorted s nm hs) (made_find s nm)
set_option maxRecDepth 100000 in
set_option maxHeartbeats 4000000 in
theorem lload_any (nm : ByteArray) (b : List UInt8) (A : Option Addr) (c : Nat) (F : Nat → Prop) (p : Nat) (L : LMem) (w : World) (h : DiskM w F p L) (hf : L.Fine) (hpl : L.pr.length ≤ 1000000) (hn : nm.size ≤ 9223372036854775807) (hb : b.length ≤ 1073741824)
    (hr : Reads w w.heap.size 1 A b.length (bv b)) (hs : ∀ ad, A = some ad → ¬ F ad.block) :
    Calls Try.prog 12 #[.pointer (some ⟨p, 0, none⟩), .string nm, .slice A b.length c] w fun e w' => LOp F p (L.st.load nm b).1 (L.st.load nm b).2 w e w' := by
  have HNm := Lib.hid (isName_any nm w hn)
  have HD := Lib.hid h
  have HF := Lib.hid hf
  have HSm := Lib.hid (fun n => lop_same (n := n) h)
  rcases hnm : named nm with _ | _
  · rw [hnm] at HNm
    have HW : Hid (L.st.load nm b = (L.st, 1)) := Lib.hid (by unfold RD.load; rw [if_pos hnm])
    rw [HW.out]
    clear h hnm
    go_enter Try.func12, Try.ntmps12
    go_wp2_with (go_at_call 38; refine HNm.out.mono ?_; rintro e w' ⟨rfl, rfl⟩)
    go_ret
    exact HSm.out 1
  · rw [hnm] at HNm
    have hns := named_size hnm
    have HFit := Lib.hid (lfits_any nm b.length F p L w h hf hn (by omega))
    have HW : Hid (L.st.load nm b = if L.st.fits nm b.length ≠ 0 then (L.st, L.st.fits nm b.length) else (((L.st.settled nm).made nm).setF (L.st.at_ nm) fun _ => ⟨nm, b, b, true⟩, 0)) := Lib.hid (by
      unfold RD.load
      rw [if_neg (by rw [hnm]; simp)])
    clear h hnm
    rcases fits_cases L.st nm b.length with he | he | he
    rotate_left
    · rw [he] at HFit HW
      simp only [ne_eq, show (7 : Nat) ≠ 0 from by decide, not_false_eq_true, if_true] at HW
      have HEnd := Lib.hid (fun w1 (hb : Below w.heap.size w w1) => (show LOp F p L.st 7 w (.returned (.int .i64 ((7 : Nat) : Int))) w1 from ⟨rfl, ⟨L, (HD.out.below hb).mono fun k hk => .inl hk, rfl⟩, Only.of_below hb⟩))
      rw [HW.out]
      clear he
      go_enter Try.func12, Try.ntmps12
      go_wp2_with (first | (go_at_call 38; refine HNm.out.mono ?_; rintro e w' ⟨rfl, rfl⟩) | (go_at_call 39; refine HFit.out.mono ?_; rintro e w1 ⟨rfl, hb1⟩))
      go_ret
      exact HEnd.out w1 hb1
    · rw [he] at HFit HW
      simp only [ne_eq, show (11 : Nat) ≠ 0 from by decide, not_false_eq_true, if_true] at HW
      have HEnd := Lib.hid (fun w1 (hb : Below w.heap.size w w1) => (show LOp F p L.st 11 w (.returned (.int .i64 ((11 : Nat) : Int))) w1 from ⟨rfl, ⟨L, (HD.out.below hb).mono fun k hk => .inl hk, rfl⟩, Only.of_below hb⟩))
      rw [HW.out]
      clear he
      go_enter Try.func12, Try.ntmps12
      go_wp2_with (first | (go_at_call 38; refine HNm.out.mono ?_; rintro e w' ⟨rfl, rfl⟩) | (go_at_call 39; refine HFit.out.mono ?_; rintro e w1 ⟨rfl, hb1⟩))
      go_ret
      exact HEnd.out w1 hb1
    · rw [he] at HFit HW
      simp only [ne_eq, not_true_eq_false, if_false] at HW
      rw [HW.out]
      clear he
      have HTk := Lib.hid (fun w1 (hb : Below w.heap.size w w1) => ltaken_any nm F p L w1 (HD.out.below hb) (by omega))
      have HMd : Hid (∀ w2 wv', DiskM w2 F p { L with wv := wv', pr := L.pr.filter fun q => !isOf nm q } → Calls Try.prog 41 #[.pointer (some ⟨p, 0, none⟩), .string nm] w2 fun e w' => MadeL F p { L with wv := wv', pr := L.pr.filter fun q => !isOf nm q } nm w2 e w') := Lib.hid (fun w2 wv' hd2 => lmade_any nm F p _ w2 hd2 hn (by have := HF.out.few; show L.fr.length ≤ _; omega))
      have HCl : Hid (∀ w3, Only F w w3 → Calls Try.prog 42 #[.slice A b.length c] w3 fun e w' => ∃ v, e = .returned v ∧ w'.ownsRow w3.heap.size 5 1 v b.length (bv b) ∧ Below w3.heap.size w3 w') := Lib.hid (fun w3 ho => clone_any b A c w3 (by omega) (reads_off hr ho hs))
      have HFin : Hid (∀ (w3 w4 w5 : World) wv' L3 f (va vb : Value), Only F w w3 → DiskM w3 (Gr F w w3) p L3 → L3.st = ({ L with wv := wv', pr := L.pr.filter fun q => !isOf nm q } : LMem).st.made nm → getF L3.fr nm = some f → w4.ownsRow w3.heap.size 5 1 va b.length (bv b) → Below w3.heap.size w3 w4 → w5.ownsRow w4.heap.size 5 1 vb b.length (bv b) → Below w4.heap.size w4 w5 →
          LOp F p (((L.st.settled nm).made nm).setF (L.st.at_ nm) fun _ => ⟨nm, b, b, true⟩) 0 w (.returned (.int .i64 ((0 : Nat) : Int))) (((w5.setCell ⟨f.g, 0, none⟩ va).setCell ⟨f.g, 1, none⟩ vb).setCell ⟨f.g, 2, none⟩ (.bool true))) := Lib.hid (fun w3 w4 w5 wv' L3 f va vb ho3 hd3 hst3 hg3 hva hb4 hvb hb5 => by
        have hfm := (getF_some hg3).1
        have hfn := (getF_some hg3).2
        have hff := hd3.file f hfm
        have hb35 : Below w3.heap.size w3 w5 := hb4.trans (hb5.mono hb4.size)
        have hs4 := hb4.size
        have hs5 := hb5.size
        have hs3 := ho3.size
        have hog : Only (fun k => k = f.g) w5 (((w5.setCell ⟨f.g, 0, none⟩ va).setCell ⟨f.g, 1, none⟩ vb).setCell ⟨f.g, 2, none⟩ (.bool true)) := (((Only.refl (fun k => k = f.g) w5).setCell (p := ⟨f.g, 0, none⟩) (.inl rfl) va).setCell (p := ⟨f.g, 1, none⟩) (.inl rfl) vb).setCell (p := ⟨f.g, 2, none⟩) (.inl rfl) (.bool true)
        have hsz : (((w5.setCell ⟨f.g, 0, none⟩ va).setCell ⟨f.g, 1, none⟩ vb).setCell ⟨f.g, 2, none⟩ (.bool true)).heap.size = w5.heap.size := by simp [World.setCell]
        have ho36 : Only (fun k => k = f.g ∨ f.Own k) w3 (((w5.setCell ⟨f.g, 0, none⟩ va).setCell ⟨f.g, 1, none⟩ vb).setCell ⟨f.g, 2, none⟩ (.bool true)) := (Only.of_below hb35 : Only (fun k => k = f.g ∨ f.Own k) w3 w5).trans hog fun j _ hj => .inl hj
        have hva5 := own_only hva (Only.of_below (F := fun _ => False) hb5) fun _ _ => id
        have hvag : ∀ k, va.ownBlock = some k → ¬ k = f.g := fun k hk e => by have h1 := (hva.lt k hk).1; have h2 := hff.blk.lt; omega
        have hvbg : ∀ k, vb.ownBlock = some k → ¬ k = f.g := fun k hk e => by have h1 := (hvb.lt k hk).1; have h2 := hff.blk.lt; omega
        have h1 := hd3.setFile hfm ⟨f.name, f.g, va, b, vb, b, true⟩ rfl rfl ho36 (by
          have := (((hff.blk.below hb35 hff.blk.lt).set_ 0 va).set_ 1 vb).set_ 2 (.bool true)
          simpa [GF.blkOf] using this) ⟨own_base (own_only hva5 hog hvag) (Nat.zero_le _), fun k hk => .inr ⟨(hva.lt k hk).1, by rw [hsz]; have := (hva.lt k hk).2; omega⟩⟩ ⟨own_base (own_only hvb hog hvbg) (Nat.zero_le _), fun k hk => .inr ⟨by have := (hvb.lt k hk).1; omega, by rw [hsz]; exact (hvb.lt k hk).2⟩⟩ (fun k hk e => by
          have h2 := (hva.lt k hk).2
          have h3 := (hvb.lt k e).1
          omega) (fun k hk => by
          rcases hk with hk | hk
          · exact .inr (hva.lt k hk).1
          · exact .inr (by have := (hvb.lt k hk).1; omega))
        have h2 := upd_st (f' := (⟨f.name, f.g, va, b, vb, b, true⟩ : GF)) (fun _ => (⟨nm, b, b, true⟩ : RF)) hd3.srt hfm rfl (by show (⟨f.name, b, b, true⟩ : RF) = _; rw [hfn])
        have ho6 : Only (Gr F w w3) w3 (((w5.setCell ⟨f.g, 0, none⟩ va).setCell ⟨f.g, 1, none⟩ vb).setCell ⟨f.g, 2, none⟩ (.bool true)) := ho36.mono fun k _ hk => hk.elim (fun e => e ▸ hff.fp) fun e => (hff.own e).2
        refine ⟨rfl, ⟨_, h1.mono fun k hk => gr_two ho3 ho6 hk, ?_⟩, ho3.then_ ho6⟩
        rw [h2, hst3, settled_st, hfn]
        exact upN_made_setF (L.st.settled nm) nm _ (by show L.st.names.Pairwise bLt; rw [lst_names]; exact HD.out.srt))
      have HFz : Hid (∀ (w3 w4 w5 : World) L3 f, DiskM w3 (Gr F w w3) p L3 → getF L3.fr nm = some f → Below w3.heap.size w3 w4 → Below w4.heap.size w4 w5 → ∃ c0 c1 c2, w5.cell? ⟨f.g, 0, none⟩ = some c0 ∧ w5.cell? ⟨f.g, 1, none⟩ = some c1 ∧ w5.cell? ⟨f.g, 2, none⟩ = some c2 ∧ (∀ i, w5.frozen? ⟨f.g, i, none⟩ = false) ∧ f.g < w5.heap.size) := Lib.hid (fun w3 w4 w5 L3 f hd3 hg3 hb4 hb5 => by
        have hb := (hd3.file f (getF_some hg3).1).blk.below (hb4.trans (hb5.mono hb4.size)) (hd3.file f (getF_some hg3).1).blk.lt
        exact ⟨_, _, _, by rw [hb.cell]; rfl, by rw [hb.cell]; rfl, by rw [hb.cell]; rfl, hb.frozen, hb.lt⟩)
      clear hr hs
      go_enter Try.func12, Try.ntmps12
      go_upto_region 8 with (first | (go_at_call 38; refine HNm.out.mono ?_; rintro e w' ⟨rfl, rfl⟩) | (go_at_call 39; refine HFit.out.mono ?_; rintro e w1 ⟨rfl, hb1⟩; have HB1 := Lib.hid hb1; clear hb1) | (go_at_call 40; refine (HTk.out _ HB1.out).mono ?_; rintro e w2 ⟨v2, wv2, rfl, hv2, hd2, ho2, hk82⟩; have HD2 := Lib.hid hd2; have HO2 : Hid (Only F w w2) := Lib.hid ((Only.of_below HB1.out : Only F w w1).trans ho2 fun _ _ h => h); clear hv2 hd2 ho2 hk82) | (go_at_call 41; refine (HMd.out _ _ HD2.out).mono ?_; rintro e w3 ⟨L3, f, rfl, hd3, hst3, hg3, ho3, hpr3, hwv3, hk83, hown3⟩; have HO3 : Hid (Only F w w3) := Lib.hid (HO2.out.trans ho3 fun _ _ h => h); have HD3 : Hid (DiskM w3 (Gr F w w3) p L3) := Lib.hid (hd3.mono fun k hk => hk.elim .inl fun h => .inr ⟨by have := HO2.out.size; omega, h.2⟩); have HS3 := Lib.hid hst3; have HG3 := Lib.hid hg3; clear hd3 hst3 hg3 ho3 hpr3 hwv3 hk83 hown3))
      go_wp2_with (first
        | (go_at_call 42; refine (HCl.out w4 HO4.out).mono ?_; rintro e w5 ⟨vb, rfl, hvb, hb5⟩; obtain ⟨c0, c1, c2, z0, z1, z2, fz, hgl⟩ := HFz.out w3 w4 w5 L3 f HD3.out HG3.out HB4.out hb5; have HE := Lib.hid (HFin.out w3 w4 w5 wv2 L3 f _ vb HO3.out HD3.out HS3.out HG3.out HVa.out HB4.out hvb hb5); obtain ⟨Ab, cb, rfl⟩ := own_slice hvb; clear hvb hb5)
        | (go_at_call 42; refine (HCl.out w3 HO3.out).mono ?_; rintro e w4 ⟨va, rfl, hva, hb4⟩; have HO4 : Hid (Only F w w4) := Lib.hid (HO3.out.trans (Only.of_below hb4 : Only F w3 w4) fun _ _ h => h); have HB4 := Lib.hid hb4; obtain ⟨Aa, ca, rfl⟩ := own_slice hva; have HVa := Lib.hid hva; clear hva hb4)
        | fail)
      go_ret
      exact HE.out
end Go.Proofs.Ytoihkanneiknkaa
