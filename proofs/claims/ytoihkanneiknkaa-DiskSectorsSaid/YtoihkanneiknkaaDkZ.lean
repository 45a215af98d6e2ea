/- Contract of octavolaw04.alike. Conditions: both disks are in memory, and stand for the same abstract one. -/
import Derived.Test.YtoihkanneiknkaaDkF
import Derived.Test.YtoihkanneiknkaaSame
import Derived.Test.YtoihkanneiknkaaDkH
import Derived.Deep.DrawnRows
namespace Go.Proofs.Ytoihkanneiknkaa
open Go.RowKit
attribute [local go_sem ↓] Go.wp_at_zero Go.wp_at_succ

theorem told_up {s : RD} (h : s.down = false) : s.told = s.names := by unfold RD.told; rw [h]; rfl
theorem told_down {s : RD} (h : s.down = true) : s.told = [] := by unfold RD.told; rw [h]; rfl
theorem size_at {s : RD} (hn : s.Nice) (hd : s.down = false) (k : Nat) (hk : k < s.files.length) : s.size s.files[k].name = (s.files[k].now.length : Int) := by
  unfold RD.size
  rw [if_neg (by rw [hd, nice_find hn k hk]; simp), nice_had hn k hk]
theorem read_at {s : RD} (hn : s.Nice) (hd : s.down = false) (k : Nat) (hk : k < s.files.length) : s.read s.files[k].name 0 (s.files[k].now.length : Int) = (s.files[k].now, 0) := by
  unfold RD.read
  rw [if_neg (by rw [hn.named _ (List.getElem_mem hk)]; simp), if_neg (by rw [hd]; simp), nice_find hn k hk, nice_had hn k hk]
  simp only
  rw [if_neg (by omega), List.getElem?_eq_getElem hk]
  simp
theorem strs_get (l : List ByteArray) (k : Nat) (h : k < l.length) : (strs l)[k]? = some (.string l[k]) := by
  unfold strs
  rw [List.getElem?_map, List.getElem?_eq_getElem h]
  rfl

set_option maxRecDepth 100000 in
set_option maxHeartbeats 4000000 in
theorem alike_any (s : RD) (m : Nat) (Fd Fw : Nat → Prop) (pd pw : Nat) (w : World) (hd : DiskAt w Fd pd s) (hw : RefAt w Fw pw s) (ho : Well s m) :
    Calls Try.prog 11 #[.pointer (some ⟨pd, 0, none⟩), .pointer (some ⟨pw, 0, none⟩)] w fun e w' => e = .returned (.bool true) ∧ Below w.heap.size w w' := by
  obtain ⟨R, hR, hRs⟩ := hw
  have HD := Lib.hid (fun W (hb : Below w.heap.size w W) => (hd.only (Only.of_below hb : Only (fun _ => False) w W) fun _ _ => id))
  have HR := Lib.hid (fun W (hb : Below w.heap.size w W) => (hR.only (Only.of_below hb : Only (fun _ => False) w W) fun _ _ => id))
  have HS := Lib.hid hRs
  have HOk := Lib.hid ho
  obtain ⟨-, c1, -, -, c4, -, -⟩ := hR.cells
  have hp : pw < w.heap.size := hR.blk.lt
  have e1 : R.changes = s.changes := by rw [← hRs]; rfl
  have e4 : R.down = s.down := by rw [← hRs]; rfl
  rw [e1] at c1
  rw [e4] at c4
  have HFd := Lib.hid (fun W (hb : Below w.heap.size w W) => disk_free (HD.out W hb) ho)
  have HFw := Lib.hid (fun W (hb : Below w.heap.size w W) => ref_free (⟨R, HR.out W hb, hRs⟩ : RefAt W Fw pw s) ho.ok ho.small)
  have HCd := Lib.hid (fun W (hb : Below w.heap.size w W) => disk_changes (HD.out W hb))
  have HDd := Lib.hid (fun W (hb : Below w.heap.size w W) => disk_down (HD.out W hb))
  have HNd := Lib.hid (fun W (hb : Below w.heap.size w W) => disk_names (HD.out W hb) ho)
  clear hd hR ho e1 e4 hRs
  have b0 := Below.refl w.heap.size w
  have BD := Lib.hid b0.drew
  clear b0
  go_enter Try.func11, Try.ntmps11
  go_upto_region 1 with fail
  go_region_held3 (fun w' => Below w.heap.size w w' ∧ w'.cell? ⟨pw, 1, none⟩ = some (.int .i64 s.changes) ∧ w'.cell? ⟨pw, 4, none⟩ = some (.bool s.down))
    (first
      | exact ⟨BD.out, c1, c4⟩
      | exact ⟨b4, (b4.cell (p := ⟨pw, 1, none⟩) hp).trans c1, (b4.cell (p := ⟨pw, 4, none⟩) hp).trans c4⟩
      | exact ⟨b3, (b3.cell (p := ⟨pw, 1, none⟩) hp).trans c1, (b3.cell (p := ⟨pw, 4, none⟩) hp).trans c4⟩
      | exact ⟨b2, (b2.cell (p := ⟨pw, 1, none⟩) hp).trans c1, (b2.cell (p := ⟨pw, 4, none⟩) hp).trans c4⟩
      | exact ⟨b1, (b1.cell (p := ⟨pw, 1, none⟩) hp).trans c1, (b1.cell (p := ⟨pw, 4, none⟩) hp).trans c4⟩
      | go_keep)
    (first
      | (go_at_call 27; refine (HDd.out _ b3).mono ?_; rintro e w4 ⟨rfl, hb⟩; have b4 := b3.trans (hb.mono b3.size))
      | (go_at_call 25; refine (HCd.out _ b2).mono ?_; rintro e w3 ⟨rfl, hb⟩; have b3 := b2.trans (hb.mono b2.size))
      | (go_at_call 37; refine (HFw.out _ b1).mono ?_; rintro e w2 ⟨rfl, hb⟩; have b2 := b1.trans (hb.toBelow.mono b1.size))
      | (go_at_call 21; refine (HFd.out _ BD.out).mono ?_; rintro e w1 ⟨rfl, hb⟩; have b1 := BD.out.trans (hb.mono BD.out.size))
      | fail)
  have HB4 := Lib.hid b4
  have HN5 := Lib.hid (HNd.out w4 b4)
  rename_i hHeld
  obtain ⟨-, d1, d4⟩ := hHeld
  clear b1 b2 b3 b4 hb
  rcases hdn : s.down with _ | _
  · rw [hdn] at d4
    have HTold := Lib.hid (told_up hdn)
    have hfr : s.files = R.fr.map FR.toF := by rw [← HS.out]; rfl
    have hnn : s.names.length = R.fr.length := by rw [RD.names, hfr]; simp
    have HN6 : Hid (Calls Try.prog 24 #[.pointer (some ⟨pd, 0, none⟩)] w4 fun e w' => ∃ v, e = .returned v ∧ w'.ownsRow w4.heap.size 9 1 v R.fr.length (strs s.names) ∧ Below w4.heap.size w4 w') := Lib.hid (by
      have h1 := HN5.out
      unfold NamesAt at h1
      rw [HTold.out, hnn] at h1
      exact h1)
    obtain ⟨Af, cf, hfv, hlcf, hcmf, -⟩ := (HR.out w4 HB4.out).fs.value
    have HFv := Lib.hid hfv
    have d5 := (HR.out w4 HB4.out).cells.2.2.2.2.2.1
    rw [hfv] at d5
    have HSz : Hid (∀ (W : World) (k : Nat) (hk : k < R.fr.length), Below w.heap.size w W → Calls Try.prog 19 #[.pointer (some ⟨pd, 0, none⟩), .string R.fr[k].name] W fun e w' => e = .returned (.int .i64 (R.fr[k].now.length : Int)) ∧ Below W.heap.size W w') := Lib.hid (fun W k hk hb => by
      have hk' : k < s.files.length := by rw [hfr]; simpa using hk
      have h1 := size_at HOk.out.nice hdn k hk'
      have h2 : s.files[k] = R.fr[k].toF := by simp [hfr]
      rw [h2] at h1
      have h3 := HOk.out.nice.named _ (List.getElem_mem hk')
      rw [h2] at h3
      rw [← show s.size R.fr[k].name = (R.fr[k].now.length : Int) from h1]
      exact disk_size R.fr[k].name (HD.out W hb) HOk.out (by
        unfold named at h3
        simp only [Bool.and_eq_true, decide_eq_true_eq] at h3
        have := h3.1.2
        show R.fr[k].name.size ≤ _
        have h4 : R.fr[k].toF.name = R.fr[k].name := rfl
        rw [h4] at this
        omega))
    have HRe : Hid (∀ (W : World) (k : Nat) (hk : k < R.fr.length), Below w.heap.size w W → Calls Try.prog 18 #[.pointer (some ⟨pd, 0, none⟩), .string R.fr[k].name, .int .i64 0, .int .i64 (R.fr[k].now.length : Int)] W fun e w' => ReadAt R.fr[k].now 0 W e w') := Lib.hid (fun W k hk hb => by
      have hk' : k < s.files.length := by rw [hfr]; simpa using hk
      have h1 := read_at HOk.out.nice hdn k hk'
      have h2 : s.files[k] = R.fr[k].toF := by simp [hfr]
      rw [h2] at h1
      have h3 := HOk.out.nice.named _ (List.getElem_mem hk')
      rw [h2] at h3
      have h5 : R.fr[k].now.length ≤ m := by
        have := (HOk.out.ok.now _ (List.getElem_mem hk')).1
        rw [h2] at this
        exact this
      have h6 := HOk.out.small
      have h7 := disk_read R.fr[k].name 0 (R.fr[k].now.length : Int) (HD.out W hb) HOk.out (by
        unfold named at h3
        simp only [Bool.and_eq_true, decide_eq_true_eq] at h3
        have := h3.1.2
        have h4 : R.fr[k].toF.name = R.fr[k].name := rfl
        rw [h4] at this
        omega) (by omega) (by omega)
      rw [show s.read R.fr[k].name 0 (R.fr[k].now.length : Int) = (R.fr[k].now, 0) from h1] at h7
      exact h7)
    have HNk : Hid (∀ (k : Nat) (hk : k < R.fr.length), (strs s.names)[k]? = some (.string R.fr[k].name)) := Lib.hid (fun k hk => by
      rw [strs_get _ k (by omega)]
      simp [RD.names, hfr, FR.toF])
    have HLn : Hid (∀ (k : Nat) (hk : k < R.fr.length), R.fr[k].now.length ≤ 1000000) := Lib.hid (fun k hk => by
      have hk' : k < s.files.length := by rw [hfr]; simpa using hk
      have h2 : s.files[k] = R.fr[k].toF := by simp [hfr]
      have := (HOk.out.ok.now _ (List.getElem_mem hk')).1
      rw [h2] at this
      exact Nat.le_trans this HOk.out.small)
    have hfl16 : R.fr.length ≤ 16 := by
      have := HOk.out.ok.files
      rw [hfr] at this
      simpa using this
    clear hfr hnn hdn hfv d1
    have hp4 : pw < w4.heap.size := Nat.lt_of_lt_of_le hp HB4.out.size
    go_wp2_with (go_at_call 24; refine HN6.out.mono ?_; rintro e w5 ⟨v5, rfl, ho5, hb5⟩; obtain ⟨A5, cc5, rfl, hc5, hm5, hr5, hA5⟩ := own_form ho5; have d4' := (hb5.cell (p := ⟨pw, 4, none⟩) hp4).trans d4; have d5' := (hb5.cell (p := ⟨pw, 5, none⟩) hp4).trans d5; have HB5 := Lib.hid hb5; have HR5 := Lib.hid hr5; clear ho5 hb5 hr5)
    have HB05 := Lib.hid (HB4.out.trans (HB5.out.mono HB4.out.size))
    clear d4 d5 d4' d5'
    go_loopw [6] (fun i wr => ∃ k : Nat, k ≤ R.fr.length ∧ i = .int .i64 k ∧ Hid (Below w5.heap.size w5 wr)) (fun i _ => R.fr.length - (intOf i).toNat)
    case atStart => exact ⟨0, Nat.zero_le _, rfl, Below.refl _ _⟩
    case round =>
      obtain ⟨k, hk, rfl, HBr⟩ := hrel
      have HB0r := Lib.hid (HB05.out.trans (HBr.out.mono HB05.out.size))
      by_cases hlt : k < R.fr.length
      · obtain ⟨bn, on, rfl, hbn, hcn⟩ := (HR5.out.below HBr.out).form (by omega)
        have hxn := hcn k _ (HNk.out k hlt)
        have HRr := Lib.hid (HR.out wr HB0r.out)
        obtain ⟨g, cap, hv2, _, hgw, _, _, hcf, _⟩ := fr_cells HRr.out.fs (by omega)
        rw [HFv.out] at hv2
        obtain ⟨rfl, rfl⟩ : Af = some ⟨g, 0, none⟩ ∧ cf = cap := by simpa using hv2
        obtain ⟨x0, x1, -, -⟩ := hcf k hlt
        obtain ⟨A1, cc1, hn1, hlc1, hcm1, hrd1⟩ := (HRr.out.fb _ (List.getElem_mem hlt)).1.value
        have x5 := HRr.out.cells.2.2.2.2.2.1
        rw [HFv.out] at x5
        rw [hn1] at x1
        have hi : (k : Int) < (R.fr.length : Int) := by omega
        have hi0 : (0 : Int) ≤ (k : Int) := by omega
        have hpr : pw < wr.heap.size := HRr.out.blk.lt
        have hbnr : bn < wr.heap.size := by have := HBr.out.size; omega
        have HSk := Lib.hid (fun W hb => HSz.out W k hlt hb)
        have HRk := Lib.hid (fun W hb => HRe.out W k hlt hb)
        have HLk := Lib.hid (HLn.out k hlt)
        clear hcn hcf hv2 hn1
        generalize R.fr[k].name = nm at *
        generalize R.fr[k].now = now at *
        have hln := HLk.out
        have BR := Lib.hid (HB0r.out.drew)
        have HRd1 := Lib.hid hrd1
        have hb1 := str_yes (rfl : nm = nm)
        go_upto_region 11 with fail
        go_region_held3 (fun w' => Below w.heap.size w w' ∧ w'.cell? ⟨bn, on + k, none⟩ = some (.string nm))
          (first
            | exact ⟨BR.out, hxn⟩
            | exact ⟨b7, (hb7.cell (p := ⟨bn, on + k, none⟩) (Nat.lt_of_lt_of_le hbnr hb6.size)).trans ((hb6.cell (p := ⟨bn, on + k, none⟩) hbnr).trans hxn)⟩
            | exact ⟨b6, (hb6.cell (p := ⟨bn, on + k, none⟩) hbnr).trans hxn⟩
            | go_keep)
          (first
            | (go_at_call 18; refine (HRk.out _ b6).mono ?_; rintro e w7 ⟨v7, rfl, ho7, hb7⟩; obtain ⟨A7, c7, rfl⟩ := own_slice ho7; have b7 := b6.trans (hb7.mono b6.size))
            | (go_at_call 19; refine (HSk.out _ BR.out).mono ?_; rintro e w6 ⟨rfl, hb6⟩; have b6 := BR.out.trans (hb6.mono BR.out.size))
            | fail)
        rename_i hHeld
        have b67 : Below wr.heap.size wr w7 := (below_of_drew hb6).trans (hb7.mono hb6.size)
        have y0 := (b67.cell (p := ⟨g, k * 4, none⟩) hgw).trans x0
        have y1 := (b67.cell (p := ⟨g, k * 4 + 1, none⟩) hgw).trans x1
        have y5 := (b67.cell (p := ⟨pw, 5, none⟩) hpr).trans x5
        have yn := (b67.cell (p := ⟨bn, on + k, none⟩) hbnr).trans hxn
        have hg7 : g < w7.heap.size := Nat.lt_of_lt_of_le hgw b67.size
        have hp7 : pw < w7.heap.size := Nat.lt_of_lt_of_le hpr b67.size
        have hbn7 : bn < w7.heap.size := Nat.lt_of_lt_of_le hbnr b67.size
        have HSame := Lib.hid (same_any now now A7 A1 w7.heap.size wr.heap.size c7 cc1 w7.drew (by unfold maxLen; omega) (by unfold maxLen; omega) (Reads.of_own ho7) ((hrd1.below b67).drew))
        rw [decide_eq_true (rfl : now = now)] at HSame
        have B7 := Lib.hid ((Below.refl w7.heap.size w7).drew)
        have HB57 := Lib.hid (HBr.out.trans (b67.mono HBr.out.size))
        clear hHeld hb6 hb7 b6 b7 ho7 x0 x1 x5 hxn b67 hrd1
        go_upto_region 12 with fail
        go_region_held3 (fun w' => Below w7.heap.size w7 w' ∧ w'.cell? ⟨bn, on + k, none⟩ = some (.string nm) ∧ w'.cell? ⟨pw, 5, none⟩ = some (.slice (some ⟨g, 0, none⟩) R.fr.length cf) ∧ w'.cell? ⟨g, k * 4, none⟩ = some (.string nm) ∧ w'.cell? ⟨g, k * 4 + 1, none⟩ = some (.slice A1 now.length cc1))
          (first
            | exact ⟨B7.out, yn, y5, y0, y1⟩
            | exact ⟨b8, (b8.cell (p := ⟨bn, on + k, none⟩) hbn7).trans yn, (b8.cell (p := ⟨pw, 5, none⟩) hp7).trans y5, (b8.cell (p := ⟨g, k * 4, none⟩) hg7).trans y0, (b8.cell (p := ⟨g, k * 4 + 1, none⟩) hg7).trans y1⟩
            | go_keep)
          (first
            | (go_at_call 20; refine HSame.out.mono ?_; rintro e w8 ⟨rfl, hb8⟩; have b8 : Below w7.heap.size w7 w8 := B7.out.trans hb8)
            | fail)
        go_wp2_with fail
        go_roundw
        case rel => exact ⟨k + 1, by omega, by go_num, HB57.out.trans (b8.mono HB57.out.size)⟩
        case measure => simp [intOf]; omega
      · obtain rfl : k = R.fr.length := by omega
        clear hlt
        go_wp2_with fail
        go_ret
        exact ⟨rfl, HB0r.out⟩
  · rw [hdn] at d4
    have htl := told_down hdn
    unfold NamesAt at HN5
    rw [htl] at HN5
    clear htl hdn
    go_wp2_with (go_at_call 24; refine HN5.out.mono ?_; rintro e w5 ⟨v5, rfl, ho5, hb5⟩; obtain ⟨A5, cc5, rfl, hc5, hm5, hr5, hA5⟩ := own_form ho5; have d4' := (hb5.cell (p := ⟨pw, 4, none⟩) (Nat.lt_of_lt_of_le hp HB4.out.size)).trans d4; have HB5 := Lib.hid hb5; clear ho5 hb5 hr5)
    go_ret
    exact ⟨rfl, HB4.out.trans (HB5.out.mono HB4.out.size)⟩
end Go.Proofs.Ytoihkanneiknkaa
