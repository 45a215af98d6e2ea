/- Contract of page.Open: for any bytes and any number the page that they are, or the first thing that is wrong. Conditions: the bytes read as the list that is named. -/
import Derived.Test.YtgpjhcpiemdbcaaPgB
import Derived.Test.YtgpjhcpiemdbcaaClone
namespace Go.Proofs.Ytgpjhcpiemdbcaa
open Go.RowKit
attribute [local go_sem ↓] Go.wp_at_zero Go.wp_at_succ

def OpenAt (no : Int) (l : List UInt8) (w : World) (e : Ending) (w' : World) : Prop :=
  ((mOpen no l).2.2 ≠ 0 ∧ e = .returned (.tuple #[.int .i64 0, .slice none 0 0, .int .i64 ((mOpen no l).2.2 : Int)]) ∨
   (mOpen no l).2.2 = 0 ∧ ∃ v, e = .returned (.tuple #[.int .i64 (mOpen no l).1, v, .int .i64 0]) ∧ w'.ownsRow w.heap.size 5 1 v (mOpen no l).2.1.length (bv (mOpen no l).2.1)) ∧ Below w.heap.size w w'
theorem open_bad {no : Int} {l : List UInt8} {w w' : World} {n : Nat} (h : mOpen no l = (0, [], n)) (hn : n ≠ 0) (hb : Below w.heap.size w w') : OpenAt no l w (.returned (.tuple #[.int .i64 0, .slice none 0 0, .int .i64 (n : Int)])) w' := by
  refine ⟨.inl ⟨?_, ?_⟩, hb⟩
  · rw [h]; exact hn
  · rw [h]
theorem open_good {no k : Int} {l b : List UInt8} {w w' : World} {v : Value} (h : mOpen no l = (k, b, 0)) (hv : w'.ownsRow w.heap.size 5 1 v b.length (bv b)) (hb : Below w.heap.size w w') : OpenAt no l w (.returned (.tuple #[.int .i64 k, v, .int .i64 0])) w' := by
  refine ⟨.inr ⟨?_, v, ?_, ?_⟩, hb⟩
  · rw [h]
  · rw [h]
  · rw [h]; exact hv

set_option maxRecDepth 100000 in
set_option maxHeartbeats 1600000 in
theorem open_any (no : Int) (l : List UInt8) (A : Option Addr) (B c : Nat) (w : World) (_hl : l.length ≤ 9223372036854775807) (hr : Reads w B 1 A l.length (bv l)) :
    Calls Try.prog 14 #[.int .i64 no, .slice A l.length c] w fun e w' => OpenAt no l w e w' := by
  have HN := Lib.hid (fun W => isNumber_any no W)
  by_cases hn : pgNo no
  · rw [decide_eq_true hn] at HN
    by_cases h256 : l.length = 256
    · obtain ⟨b, off, rfl, hbB, hcells⟩ := hr.form (by omega)
      obtain ⟨hz, hz2⟩ := zero_of_info zero_page
      have HSum := Lib.hid (fun g W hW => sum_any g 46 l W hW h256)
      have HSum4 := Lib.hid (fun g W hW => int_at 8 12 g 8 12 46 l W rfl rfl hW h256 (by omega) (by omega) (by omega))
      have hlen : (l.length : Int) = 256 := by omega
      have hbl : (bv l).length = 256 := by rw [bv_length, h256]
      have hat : ∀ (k : Nat) (W : World), (Instr.arrayAt 46 (.slice (some ⟨b, off, none⟩) 256 k)).run Try.prog W = .ok (.pointer (some ⟨b, off, none⟩)) W := fun k W => by
        simp [Instr.arrayAt, run_underlying Try.underlying46]
      have HLd : Hid (w.rangeAt b off (bv l) ∧ (Try.prog.info? 46).map (·.size) = some (bv l).length) := Lib.hid ⟨fun j v h => hcells j v h, by rw [hbl]; exact hz2⟩
      have hsc : ∀ W : World, (storeCells ⟨W.heap.size, 0, none⟩ (bv l) 0).run Try.prog (W.alloc (.cells (bv zeroPage).toArray 46)) = .ok () (W.alloc (.cells (bv l).toArray 46)) := fun W => by
        have := run_storeCells_new (P := Try.prog) W 46 (bv zeroPage).toArray (bv l).toArray (by rw [bv_size, h256]; exact hz2) (by rw [bv_size, bv_size, h256]; rfl) (bv_all _)
        simpa using this
      have HZ := Lib.hid hz2
      clear hz2 hcells hr
      by_cases hs : num (seg l 8 4) = pgSum l
      · have HI1 := Lib.hid (fun g W hW => int_at 0 1 g 0 1 46 l W rfl rfl hW h256 (by omega) (by omega) (by omega))
        have HI2 := Lib.hid (fun g W hW => int_at 2 4 g 2 4 46 l W rfl rfl hW h256 (by omega) (by omega) (by omega))
        rw [hs] at HSum4
        have HK := Lib.hid (fun W => isKind_any (pgKindOf l : Int) W)
        by_cases hk : pgKind (pgKindOf l)
        · rw [decide_eq_true hk] at HK
          by_cases hle : pgLen l ≤ 244
          · have hbody := pgBody_length h256 hle
            have HCl := Lib.hid (fun g W (hW : Blk W g 46 (bv l).toArray) => bclone_any (pgBody l) (some ⟨g, 12, none⟩) 244 W (by rw [hbody]; omega) (blk_part hW 12 (pgLen l) (by omega)))
            have HLa := Lib.hid (fun A c W (hW : Reads W W.heap.size 1 A (pgBody l).length (bv (pgBody l))) => laid_any no.toNat (pgKindOf l) (pgBody l) A W.heap.size c W (by have := hn.2; omega) (by have := hk.2; omega) (by rw [hbody]; exact hle) hW)
            have hL := laidL_length no.toNat (pgKindOf l) (pgBody l) (by rw [hbody]; exact hle)
            have hslt := pgSum_lt l
            have HSet := Lib.hid (fun g W hW => setInt_at 8 12 g 8 12 (pgSum l) 46 (laidL no.toNat (pgKindOf l) (pgBody l)) W rfl rfl hW hL (by omega) (by omega) (by omega) (by omega) (by omega))
            have hag := again_iff no.toNat (pgKindOf l) (pgBody l) l (by rw [hbody]; exact hle) h256 hs
            have hm : mOpen no l = if splice (laidL no.toNat (pgKindOf l) (pgBody l)) 8 (digs (pgSum l) 4) = l then (((pgKindOf l : Nat) : Int), pgBody l, 0) else (0, [], 4) := by
              unfold mOpen
              rw [if_neg (by simpa using hn), if_neg (by simpa using h256), if_neg (by simpa using hs), if_neg (by simp only [not_or]; exact ⟨by simpa using hk, by omega⟩)]
              by_cases he : splice (laidL no.toNat (pgKindOf l) (pgBody l)) 8 (digs (pgSum l) 4) = l
              · rw [if_pos he, if_neg (by simpa using hag.1 he)]
              · rw [if_neg he, if_pos (fun e => he (hag.2 e))]
            have hno : ((no.toNat : Nat) : Int) = no := Int.toNat_of_nonneg hn.1
            rw [hno] at HLa
            have hL2 : (splice (laidL no.toNat (pgKindOf l) (pgBody l)) 8 (digs (pgSum l) 4)).length = 256 := by rw [splice_length _ _ _ (by rw [digs_length, hL]; omega), hL]
            clear hag hn hs hk hno
            unfold pgKindOf pgLen at *
            rw [hbody] at HCl HLa
            generalize num (seg l 2 2) = n at *
            have hbd : (n : Int) ≤ 244 := by omega
            have hba : (12 : Int) ≤ 12 + (n : Int) := by omega
            have hbb : (12 : Int) + (n : Int) ≤ 256 := by omega
            have hbl2 := hbody
            generalize laidL no.toNat (num (seg l 0 1)) (pgBody l) = L at *
            generalize pgBody l = bd at *
            generalize pgSum l = s at *
            generalize num (seg l 0 1) = kd at *
            have hsc2 : ∀ W : World, (storeCells ⟨W.heap.size, 0, none⟩ (bv L) 0).run Try.prog (W.alloc (.cells (bv zeroPage).toArray 46)) = .ok () (W.alloc (.cells (bv L).toArray 46)) := fun W => by
              have := run_storeCells_new (P := Try.prog) W 46 (bv zeroPage).toArray (bv L).toArray (by rw [bv_size, hL]; exact HZ.out) (by rw [bv_size, bv_size, hL]; rfl) (bv_all _)
              simpa using this
            have hbL : (bv L).length = 256 := by rw [bv_length, hL]
            have HM := Lib.hid hm
            have HL2 := Lib.hid hL2
            have HBody := Lib.hid hbody
            clear hm hL2 hL hbody hbl2
            go_enter Try.func14, Try.ntmps14
            go_wp2_with (first
              | (go_at_call 20; refine (HN.out _).mono ?_; rintro e w1 ⟨rfl, rfl⟩)
              | fail)
            refine wp_load_mid 46 (.tmp 18) rfl b off rfl (bv l) _ HLd.out.1 Try.underlying46 rfl HLd.out.2 ?_
            rename_i hgo
            refine hgo _ _ ?_
            clear hgo
            go_wp2_with (first
              | (go_at_call 23; refine (HSet.out _ _ (Blk.new w6 _ _)).mono ?_; rintro e w7 ⟨rfl, hb7, ho7⟩)
              | (go_at_call 22; refine (HLa.out A5 c5 _ hr5).mono ?_; rintro e w6 ⟨rfl, hb6⟩)
              | (go_at_call 26; refine (HCl.out _ _ hp3).mono ?_; rintro e w5 ⟨v5, rfl, ho5, hb5⟩; obtain ⟨A5, c5, hv5, hnc5, hm5, hr5, hA5⟩ := own_form ho5; subst hv5)
              | (go_at_call 21; refine (HK.out _).mono ?_; rintro e w4 ⟨rfl, rfl⟩)
              | (go_at_call 25; have m0 := m1; refine (HI2.out _ _ hp3).mono ?_; rintro e w4 ⟨rfl, rfl⟩)
              | (go_at_call 25; have m0 := m8; refine (HI1.out _ _ hp3).mono ?_; rintro e w4 ⟨rfl, rfl⟩; have m1 := trivial)
              | (go_at_call 25; refine (HSum4.out _ _ hp3).mono ?_; rintro e w4 ⟨rfl, rfl⟩; have m8 := trivial)
              | (go_at_call 24; refine (HSum.out _ _ (Blk.new w _ _)).mono ?_; rintro e w3 ⟨rfl, hb3⟩; have hp3 := (Blk.new w 46 (bv l).toArray).below hb3 (by simp))
              | fail)
            have hs3 : w.heap.size < w3.heap.size := hp3.lt
            have hp6 := (hp3.below hb5 hp3.lt).below hb6 (Nat.lt_of_lt_of_le hs3 hb5.size)
            have hlt6 : w.heap.size < w6.heap.size := hp6.lt
            have hp7 : Blk w7 w.heap.size 46 (bv l).toArray := (hp6.alloc _).only ho7 (by omega)
            have hw3 : Below w.heap.size w w3 := ((Below.refl _ _).alloc (Nat.le_refl _) _).trans (hb3.mono (by simp))
            have h36 : Below w3.heap.size w3 w6 := hb5.trans (hb6.mono hb5.size)
            have h67 : Below w6.heap.size w6 w7 := ((Below.refl w6.heap.size w6).alloc (Nat.le_refl _) _).trans (ho7.below (fun k hk => by omega) (by simp))
            have hw7 : Below w.heap.size w w7 := hw3.trans ((h36.trans (h67.mono h36.size)).mono hw3.size)
            have ho7' := own_base (own_only ho5 (Only.of_below (F := fun _ => False) (hb6.trans (h67.mono hb6.size))) (fun _ _ => id)) hw3.size
            have HFin := Lib.hid (And.intro hw7 ho7')
            have HEq := fun W => run_equal_bytes (P := Try.prog) W (t := 46) (e := 5) (n := 256) rfl Try.underlying5 rfl rfl Try.underlying46 (splice L 8 (digs s 4)) l HL2.out h256
            refine wp_load_row 46 (.tmp 10) rfl w6.heap.size rfl 46 (bv (splice L 8 (digs s 4))).toArray (0, 0) _ hb7 Try.underlying46 rfl (by rw [bv_size, HL2.out]; exact HZ.out) ?_
            rename_i hgo
            refine hgo _ _ ?_
            clear hgo
            refine wpList_load_row rfl 46 (.tmp 7) rfl w.heap.size rfl 46 (bv l).toArray (0, 0) _ hp7 Try.underlying46 rfl (by rw [bv_size, h256]; exact HZ.out) ?_
            by_cases he : splice L 8 (digs s 4) = l
            · have hm2 := HM.out
              rw [if_pos he] at hm2
              have HM2 := Lib.hid hm2
              rw [decide_eq_true he] at HEq
              clear he hm2
              go_wp2_with fail
              go_ret3
              exact open_good HM2.out (by rw [HBody.out]; exact HFin.out.2) HFin.out.1
            · have hm2 := HM.out
              rw [if_neg he] at hm2
              have HM2 := Lib.hid hm2
              rw [decide_eq_false he] at HEq
              clear he hm2
              go_wp2_with fail
              go_ret3
              exact open_bad HM2.out (by decide) HFin.out.1
          · have hm : mOpen no l = (0, [], 4) := by
              unfold mOpen
              rw [if_neg (by simpa using hn), if_neg (by simpa using h256), if_neg (by simpa using hs), if_pos (.inr (by omega))]
            have HM := Lib.hid hm
            unfold pgKindOf pgLen at *
            have hbd : (244 : Int) < (num (seg l 2 2) : Int) := by omega
            clear hm hs hk hn hle
            generalize pgSum l = s at *
            generalize num (seg l 0 1) = kd at *
            generalize num (seg l 2 2) = n at *
            go_enter Try.func14, Try.ntmps14
            go_wp2_with (first
              | (go_at_call 20; refine (HN.out _).mono ?_; rintro e w1 ⟨rfl, rfl⟩)
              | fail)
            refine wp_load_mid 46 (.tmp 18) rfl b off rfl (bv l) _ HLd.out.1 Try.underlying46 rfl HLd.out.2 ?_
            rename_i hgo
            refine hgo _ _ ?_
            clear hgo
            go_wp2_with (first
              | (go_at_call 21; refine (HK.out _).mono ?_; rintro e w4 ⟨rfl, rfl⟩)
              | (go_at_call 25; have m0 := m1; refine (HI2.out _ _ hp3).mono ?_; rintro e w4 ⟨rfl, rfl⟩)
              | (go_at_call 25; have m0 := m8; refine (HI1.out _ _ hp3).mono ?_; rintro e w4 ⟨rfl, rfl⟩; have m1 := trivial)
              | (go_at_call 25; refine (HSum4.out _ _ hp3).mono ?_; rintro e w4 ⟨rfl, rfl⟩; have m8 := trivial)
              | (go_at_call 24; refine (HSum.out _ _ (Blk.new w _ _)).mono ?_; rintro e w3 ⟨rfl, hb3⟩; have hp3 := (Blk.new w 46 (bv l).toArray).below hb3 (by simp))
              | fail)
            go_ret3
            exact open_bad HM.out (by decide) (((Below.refl _ _).alloc (Nat.le_refl _) _).trans (hb3.mono (by simp)))
        · have hm : mOpen no l = (0, [], 4) := by
            unfold mOpen
            rw [if_neg (by simpa using hn), if_neg (by simpa using h256), if_neg (by simpa using hs), if_pos (.inl hk)]
          have HM := Lib.hid hm
          rw [decide_eq_false hk] at HK
          unfold pgKindOf at *
          clear hm hs hk hn
          generalize pgSum l = s at *
          generalize num (seg l 0 1) = kd at *
          generalize num (seg l 2 2) = n at *
          go_enter Try.func14, Try.ntmps14
          go_wp2_with (first
            | (go_at_call 20; refine (HN.out _).mono ?_; rintro e w1 ⟨rfl, rfl⟩)
            | fail)
          refine wp_load_mid 46 (.tmp 18) rfl b off rfl (bv l) _ HLd.out.1 Try.underlying46 rfl HLd.out.2 ?_
          rename_i hgo
          refine hgo _ _ ?_
          clear hgo
          go_wp2_with (first
            | (go_at_call 21; refine (HK.out _).mono ?_; rintro e w4 ⟨rfl, rfl⟩)
            | (go_at_call 25; have m0 := m1; refine (HI2.out _ _ hp3).mono ?_; rintro e w4 ⟨rfl, rfl⟩)
            | (go_at_call 25; have m0 := m8; refine (HI1.out _ _ hp3).mono ?_; rintro e w4 ⟨rfl, rfl⟩; have m1 := trivial)
            | (go_at_call 25; refine (HSum4.out _ _ hp3).mono ?_; rintro e w4 ⟨rfl, rfl⟩; have m8 := trivial)
            | (go_at_call 24; refine (HSum.out _ _ (Blk.new w _ _)).mono ?_; rintro e w3 ⟨rfl, hb3⟩; have hp3 := (Blk.new w 46 (bv l).toArray).below hb3 (by simp))
            | fail)
          go_ret3
          exact open_bad HM.out (by decide) (((Below.refl _ _).alloc (Nat.le_refl _) _).trans (hb3.mono (by simp)))
      · have hm : mOpen no l = (0, [], 5) := by unfold mOpen; rw [if_neg (by simpa using hn), if_neg (by simpa using h256), if_pos hs]
        have HM := Lib.hid hm
        have hne : ((num (seg l 8 4) : Int) != (pgSum l : Int)) = true := by rw [bne_iff_ne]; omega
        clear hm hs
        go_enter Try.func14, Try.ntmps14
        go_wp2_with (first
          | (go_at_call 20; refine (HN.out _).mono ?_; rintro e w1 ⟨rfl, rfl⟩)
          | fail)
        refine wp_load_mid 46 (.tmp 18) rfl b off rfl (bv l) _ HLd.out.1 Try.underlying46 rfl HLd.out.2 ?_
        rename_i hgo
        refine hgo _ _ ?_
        clear hgo
        go_wp2_with (first
          | (go_at_call 25; refine (HSum4.out _ _ ((Blk.new w _ _).below hb3 (by simp))).mono ?_; rintro e w4 ⟨rfl, rfl⟩)
          | (go_at_call 24; refine (HSum.out _ _ (Blk.new w _ _)).mono ?_; rintro e w3 ⟨rfl, hb3⟩)
          | fail)
        go_ret3
        exact open_bad HM.out (by decide) (((Below.refl _ _).alloc (Nat.le_refl _) _).trans (hb3.mono (by simp)))
    · have hm : mOpen no l = (0, [], 3) := by unfold mOpen; rw [if_neg (by simpa using hn), if_pos h256]
      have HM := Lib.hid hm
      have hne : ((l.length : Int) != 256) = true := by rw [bne_iff_ne]; omega
      clear hm h256
      go_enter Try.func14, Try.ntmps14
      go_wp2_with (first
        | (go_at_call 20; refine (HN.out _).mono ?_; rintro e w1 ⟨rfl, rfl⟩)
        | fail)
      go_ret3
      exact open_bad HM.out (by decide) (Below.refl _ _)
  · have hm : mOpen no l = (0, [], 1) := by unfold mOpen; rw [if_pos hn]
    have HM := Lib.hid hm
    rw [decide_eq_false hn] at HN
    clear hm hn
    go_enter Try.func14, Try.ntmps14
    go_wp2_with (first
      | (go_at_call 20; refine (HN.out _).mono ?_; rintro e w1 ⟨rfl, rfl⟩)
      | fail)
    go_ret3
    exact open_bad HM.out (by decide) (Below.refl _ _)
end Go.Proofs.Ytgpjhcpiemdbcaa
