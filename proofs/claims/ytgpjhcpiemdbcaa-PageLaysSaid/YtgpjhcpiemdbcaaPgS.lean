/- Contract of octavoref05.Open: for any bytes and any number the page that they are, or the first thing that is wrong. Conditions: the bytes read as the list that is named. -/
import Derived.Test.YtgpjhcpiemdbcaaPgR
import Derived.Test.YtgpjhcpiemdbcaaLeD
import Derived.Test.YtgpjhcpiemdbcaaSame
import Derived.StillTailTactics
namespace Go.Proofs.Ytgpjhcpiemdbcaa
open Go.RowKit

def RefOpenAt (no : Int) (l : List UInt8) (w : World) (e : Ending) (w' : World) : Prop :=
  ∃ v, e = .returned (.tuple #[.int .i64 (mOpen no l).1, v, .int .i64 ((mOpen no l).2.2 : Int)]) ∧ Own w' w.heap.size v (mOpen no l).2.1 ∧ Below w.heap.size w w'
theorem refopen_is {no k : Int} {l b : List UInt8} {n : Nat} {w w' : World} {v : Value} (h : mOpen no l = (k, b, n)) (hv : Own w' w.heap.size v b) (hb : Below w.heap.size w w') : RefOpenAt no l w (.returned (.tuple #[.int .i64 k, v, .int .i64 (n : Int)])) w' := by
  refine ⟨v, ?_, ?_, hb⟩
  · rw [h]
  · rw [h]; exact hv
/-- Some of the bytes of a slice that reads. -/
theorem reads_seg {w : World} {B b off : Nat} {l : List UInt8} (h : Reads w B 1 (some ⟨b, off, none⟩) l.length (bv l)) (a n : Nat) (hn : a + n ≤ l.length) : Reads w B 1 (some ⟨b, off + a, none⟩) (seg l a n).length (bv (seg l a n)) := by
  refine ⟨by rw [bv_length, Nat.mul_one], fun h0 => ?_⟩
  rw [seg_length l a n hn] at h0
  obtain ⟨b', off', e, hB, hc⟩ := h.form (by omega)
  injection e with e; injection e with e1 e2
  subst e1 e2
  refine ⟨_, rfl, hB, fun j u hu => ?_⟩
  have ha : (⟨b, off + a, none⟩ : Addr).add j = ⟨b, off + (a + j), none⟩ := by unfold Addr.add; split <;> simp_all <;> omega
  have hj : j < (seg l a n).length := by have := (List.getElem?_eq_some_iff.1 hu).1; rw [bv_length] at this; exact this
  rw [seg_length l a n hn] at hj
  rw [ha]
  refine hc (a + j) u ?_
  rw [← hu]
  have e : (bv (seg l a n)) = ((bv l).drop a).take n := by unfold seg; simp only [bv, List.map_take, List.map_drop]
  rw [e, List.getElem?_take_of_lt hj, List.getElem?_drop]
theorem refInt_seg {w : World} {B b off : Nat} {l : List UInt8} (a n c : Nat) (hl : a + n ≤ l.length) (h1 : 1 ≤ n) (h4 : n ≤ 4) (h : Reads w B 1 (some ⟨b, off, none⟩) l.length (bv l)) :
    Calls Try.prog 19 #[.slice (some ⟨b, off + a, none⟩) n c] w fun e w' => e = .returned (.tuple #[.int .i64 (num (seg l a n) : Int), .int .i64 0]) ∧ Below w.heap.size w w' := by
  have hsl := seg_length l a n hl
  have h2 := refInt_any (seg l a n) (some ⟨b, off + a, none⟩) B c w (by rw [hsl]; unfold maxLen; omega) (reads_seg h a n hl)
  have hlt : num (seg l a n) < 256 ^ 4 := by
    have h1 := num_lt (seg l a n)
    rw [hsl] at h1
    exact Nat.lt_of_lt_of_le h1 (Nat.pow_le_pow_right (by omega) h4)
  have e : mInt (seg l a n) = ((num (seg l a n) : Int), 0) := by
    unfold mInt
    rw [hsl, if_neg (by omega), if_neg (by omega)]
  rw [e, hsl] at h2
  exact h2
theorem bare_seg {l : List UInt8} (h : l.length = 256) : seg l 0 8 ++ seg l 12 244 = bare l := by
  unfold seg bare
  rw [List.drop_zero]
  congr 1
  exact List.take_of_length_le (by rw [List.length_drop]; omega)
theorem kind_cell {l : List UInt8} (h : l.length = 256) : (bv l)[0]? = some (.int .u8 (num (seg l 0 1) : Int)) := by
  rw [bv_get l 0 (by omega)]
  obtain ⟨x, r, rfl⟩ : ∃ x r, l = x :: r := by
    cases l with
    | nil => simp at h
    | cons x r => exact ⟨x, r, rfl⟩
  simp [seg, num]
theorem refPack_good {no : Int} {kd : Nat} {body : List UInt8} (hn : pgNo no) (hk : pgKind kd) (hb : body.length ≤ 244) (W : World) (A : Option Addr) (c n : Nat) (hbn : body.length = n) (hr : Reads W W.heap.size 1 A body.length (bv body)) :
    Calls Try.prog 10 #[.int .i64 no, .int .i64 (kd : Int), .slice A n c] W fun e w' => ∃ A' c', e = .returned (.tuple #[.slice A' 256 c', .int .i64 0]) ∧ Reads w' w'.heap.size 1 A' (pgBytes no.toNat kd body).length (bv (pgBytes no.toNat kd body)) ∧ Below W.heap.size W w' := by
  subst hbn
  have hp : mPack no kd body = (pgBytes no.toNat kd body, 0) := by unfold mPack; rw [if_neg (by simp [hn, hk]), if_neg (by omega), Int.toNat_natCast]
  refine Calls.mono (refPack_any no kd body A W.heap.size c W (by have := hn.1; have := hn.2; omega) hr) ?_
  rintro e w' ⟨v, he, ho, hb'⟩
  rw [hp] at he ho
  obtain ⟨A', c', rfl, -, h3, -⟩ := ho.form_n (pgBytes_length no.toNat kd body hb)
  exact ⟨A', c', he, h3, hb'⟩
theorem refPack_none {no : Int} {kd : Nat} {body : List UInt8} (hn : pgNo no) (hk : ¬ pgKind kd) (W : World) (A : Option Addr) (c n : Nat) (hbn : body.length = n) (hr : Reads W W.heap.size 1 A body.length (bv body)) :
    Calls Try.prog 10 #[.int .i64 no, .int .i64 (kd : Int), .slice A n c] W fun e w' => ∃ v, e = .returned (.tuple #[v, .int .i64 1]) ∧ Below W.heap.size W w' := by
  subst hbn
  have hp : mPack no kd body = ([], 1) := by unfold mPack; rw [if_pos (.inr hk)]
  refine Calls.mono (refPack_any no kd body A W.heap.size c W (by have := hn.1; have := hn.2; omega) hr) ?_
  rintro e w' ⟨v, he, ho, hb'⟩
  rw [hp] at he
  exact ⟨v, he, hb'⟩
set_option maxRecDepth 100000 in
set_option maxHeartbeats 1600000 in
theorem refOpen_any (no : Int) (l : List UInt8) (A : Option Addr) (B c : Nat) (w : World) (hno : -9223372036854775808 ≤ no ∧ no ≤ 9223372036854775807) (hlc : l.length ≤ c) (hr : Reads w B 1 A l.length (bv l)) :
    Calls Try.prog 15 #[.int .i64 no, .slice A l.length c] w fun e w' => RefOpenAt no l w e w' := by
  by_cases h0 : 0 ≤ no
  · by_cases h1 : no < 1048576
    · have hn : pgNo no := ⟨h0, h1⟩
      by_cases h256 : l.length = 256
      · obtain ⟨b, off, rfl, hbB, -⟩ := hr.form (by omega)
        rw [h256] at hlc
        have hlen : (l.length : Int) = 256 := by omega
        have HI8 := Lib.hid (fun W (hW : Reads W W.heap.size 1 (some ⟨b, off, none⟩) l.length (bv l)) => refInt_seg 8 4 (c - 8) (by omega) (by omega) (by omega) hW)
        have HR := Lib.hid (hr.here)
        have h8 := seg_length l 0 8 (by omega)
        have h12 := seg_length l 12 244 (by omega)
        have hr8 := fun W (hW : Below w.heap.size w W) => reads_seg (hr.here.over hW) 0 8 (by omega)
        simp only [Nat.add_zero] at hr8
        have hcp := fun W (hW : Below w.heap.size w W) => copy_any (seg l 0 8) (some ⟨b, off, none⟩) w.heap.size c W (by rw [h8]; omega) (hr8 W hW)
        rw [h8] at hcp
        have HCp := Lib.hid hcp
        have HR12 := Lib.hid (fun W (hW : Below w.heap.size w W) => (reads_seg (hr.here.over hW) 12 244 (by omega)).more hW.size)
        have H12 := Lib.hid h12
        have H8 := Lib.hid h8
        have HB0 := Lib.hid (Below.refl w.heap.size w)
        have hbare := bare_seg h256
        have hbl : (bare l).length = 252 := by rw [← hbare, List.length_append, h8, h12]
        have HBare := Lib.hid hbare
        have HBl := Lib.hid hbl
        have HOf : Hid (∀ (W : World) base A c, Own W base (.slice A 252 c) (bare l) → Calls Try.prog 18 #[.slice A 252 c] W fun e w' => e = .returned (.int .u32 (pgSum l)) ∧ W = w') := Lib.hid (fun W base A c ho => by
          have := refOf_any (bare l) A W.heap.size c W (by rw [hbl]; omega) ho.reads
          rw [hbl] at this
          exact this)
        have HI2 := Lib.hid (fun W (hW : Below w.heap.size w W) => refInt_seg 2 2 (c - 2) (by omega) (by omega) (by omega) (hr.here.over hW))
        have HC0 : Hid (∀ W, Below w.heap.size w W → W.cell? ⟨b, off, none⟩ = some (.int .u8 (pgKindOf l : Int))) := Lib.hid (fun W hW => by
          obtain ⟨b', off', e, hB, hc⟩ := (hr.here.over hW).form (by omega)
          injection e with e; injection e with e1 e2
          subst e1 e2
          exact hc 0 _ (kind_cell h256))
        have HRl := Lib.hid (fun W (hW : Below w.heap.size w W) => hr.here.over hW)
        obtain ⟨s, hs⟩ : ∃ s, s = pgSum l := ⟨_, rfl⟩
        have hs63 : s < 4294967296 := by have := pgSum_lt l; omega
        have HS63 : Hid (s < 4294967296) := Lib.hid hs63
        clear hs63
        rw [← hs] at HOf
        have HSeq := Lib.hid hs
        have HK256 : Hid (pgKindOf l < 256) := Lib.hid (by
          have h1 := num_lt (seg l 0 1)
          rw [seg_length l 0 1 (by omega)] at h1
          exact h1)
        clear hcp hr8 h12 h8 hbare hbl hr hs
        go_enter Try.func15, Try.ntmps15
        go_wp2_with (first
          | (go_at_call 19; refine (HI8.out _ HR.out).mono ?_; rintro e w1 ⟨rfl, hb1⟩)
          | fail)
        have HB1 := Lib.hid hb1
        clear hb1
        have hc8 : (8 : Int) ≤ (c : Int) := by omega
        have hc12 : ¬ c = 12 := by omega
        go_region_law (first
          | (refine step_app rfl (.tmp 32) (.tmp 34) rfl w1.heap.size v2 (seg l 0 8) rfl H2.out (some ⟨b, off + 12, none⟩) (seg l 12 244) 244 (c - 12) H12.out rfl (HR12.out w2 HB2.out) (by rw [H8.out, H12.out]; decide) HS2.out ?_; intro v3 w3 h3)
          | (go_simp; go_at_call 16; refine (HCp.out w1.drew HB1.out.drew).mono ?_; rintro e w2 ⟨v2, rfl, ho2, hb2⟩; have H2 : Hid (Own w2 w1.heap.size v2 (seg l 0 8)) := Lib.hid (by unfold Own; rw [H8.out]; exact ho2); have HB2 := Lib.hid (HB1.out.drew.trans (hb2.mono HB1.out.size)); have HS2 := Lib.hid hb2.size; have HB2s : Hid (Below w1.heap.size w1.drew w2) := Lib.hid hb2; clear ho2 hb2)
          | fail)
        have h3a := h3.out.1
        rw [HBare.out] at h3a
        obtain ⟨A3, c3, hv3, -, -, -⟩ := h3a.form_n HBl.out
        subst hv3
        have H3 := Lib.hid h3a
        have HB3 := Lib.hid (HB1.out.trans (((Below.refl w1.heap.size w1).drew.trans ((HB2s.out).trans h3.out.2.2.1)).mono HB1.out.size))
        clear h3a h3
        have hc2 : ¬ c = 2 := by omega
        have hs63 : s < 4294967296 := HS63.out
        have hs64 : IntKind.i64.wrap (s : Int) = (s : Int) := IntWalk.i64_in _ (by omega)
        clear hs63
        by_cases hs : num (seg l 8 4) = s
        · rw [hs]
          by_cases hle : pgLen l ≤ 244
          · have hbody := pgBody_length h256 hle
            have hle' : pgLen l ≤ 244 := hle
            unfold pgLen at hle'
            have hbi : (num (seg l 2 2) : Int) ≤ 244 := by omega
            have hbc : (12 : Int) + (num (seg l 2 2) : Int) ≤ (c : Int) := by omega
            have hba : (12 : Int) ≤ 12 + (num (seg l 2 2) : Int) := by omega
            have HCb : Hid (∀ (W : World) (_ : Below w.heap.size w W), Calls Try.prog 16 #[.slice (some ⟨b, off + 12, none⟩) (num (seg l 2 2)) (c - 12)] W fun e w' => ∃ A c', e = .returned (.slice A (num (seg l 2 2)) c') ∧ Own w' W.heap.size (.slice A (num (seg l 2 2)) c') (pgBody l) ∧ Below W.heap.size W w') := Lib.hid (fun W hW => by
              have h1 := copy_any (pgBody l) (some ⟨b, off + 12, none⟩) w.heap.size (c - 12) W (by rw [hbody]; omega) (reads_seg (HRl.out W hW) 12 (pgLen l) (by omega))
              rw [hbody] at h1
              refine Calls.mono h1 ?_
              rintro e w' ⟨v, he, ho, hb⟩
              have ho' : Own w' W.heap.size v (pgBody l) := by unfold Own; rw [hbody]; exact ho
              obtain ⟨A', c', rfl, -, -, -⟩ := ho'.form_n hbody
              exact ⟨A', c', he, ho', hb⟩)
            have HBody := Lib.hid hbody
            have hm0 : mOpen no l = if ¬ pgKind (pgKindOf l) then (0, [], 4) else if pgBytes no.toNat (pgKindOf l) (pgBody l) ≠ l then (0, [], 4) else (((pgKindOf l : Nat) : Int), pgBody l, 0) := by
              unfold mOpen
              rw [if_neg (by simpa using hn), if_neg (by simpa using h256), if_neg (by rw [hs, ← HSeq.out]; simp)]
              by_cases hk : pgKind (pgKindOf l)
              · rw [if_neg (by simp only [not_or]; exact ⟨not_not_intro hk, by omega⟩), if_neg (not_not_intro hk)]
              · rw [if_pos (.inl hk), if_pos hk]
            have hnn := seg_length l 2 2 (by omega)
            have hkd256 := HK256.out
            have hkc : IntKind.i64.wrap (pgKindOf l : Int) = (pgKindOf l : Int) := IntWalk.i64_in _ (by omega)
            by_cases hk : pgKind (pgKindOf l)
            · rw [if_neg (not_not_intro hk)] at hm0
              have HPk := Lib.hid (fun W A c hr => refPack_good hn hk (by rw [hbody]; exact hle) W A c (num (seg l 2 2)) hbody hr)
              have hpl := pgBytes_length no.toNat (pgKindOf l) (pgBody l) (by rw [hbody]; exact hle)
              generalize pgBytes no.toNat (pgKindOf l) (pgBody l) = P at *
              have HSm : Hid (∀ (W : World) A' c' , Below w.heap.size w W → Reads W W.heap.size 1 A' P.length (bv P) → Calls Try.prog 12 #[.slice A' 256 c', .slice (some ⟨b, off, none⟩) 256 c] W fun e w' => e = .returned (.bool (decide (P = l))) ∧ Below W.heap.size W w') := Lib.hid (fun W A' c' hW hr => by
                have := same_any P l A' (some ⟨b, off, none⟩) W.heap.size w.heap.size c' c W (by rw [hpl]; unfold maxLen; omega) (by rw [h256]; unfold maxLen; omega) hr (HRl.out W hW)
                rw [hpl, h256] at this
                exact this)
              clear hk hn hpl hle hle' hnn hbody hkd256 hs
              generalize pgKindOf l = kd at *
              generalize pgBody l = bd at *
              generalize num (seg l 2 2) = n at *
              by_cases he : P = l
              · rw [if_neg (not_not_intro he)] at hm0
                rw [decide_eq_true he] at HSm
                have HM := Lib.hid hm0
                clear hm0 he
                go_wp2_with (first
                  | (go_at_call 12; refine (HSm.out w6 A6 c6 HB6.out H6.out).mono ?_; rintro e w7 ⟨rfl, hb7⟩; have hcell7 := HC0.out w7 (HB6.out.trans (hb7.mono HB6.out.size)))
                  | (go_at_call 10; refine (HPk.out w5 A5 c5 H5.out.reads).mono ?_; rintro e w6 ⟨A6, c6, rfl, hr6, hb6⟩; have H6 := Lib.hid hr6; have HB56 := Lib.hid hb6; have HB6 := Lib.hid (HB5.out.trans (hb6.mono HB5.out.size)); clear hr6 hb6 hcell5)
                  | (go_at_call 16; refine (HCb.out w4 HB4.out).mono ?_; rintro e w5 ⟨A5, c5, rfl, ho5, hb5⟩; have H5 := Lib.hid ho5; have HB5 := Lib.hid (HB4.out.trans (hb5.mono HB4.out.size)); have hcell5 := HC0.out w5 HB5.out; clear ho5 hb5 hcell)
                  | (go_at_call 19; refine (HI2.out _ HB3.out).mono ?_; rintro e w4 ⟨rfl, hb4⟩; have HB4 := Lib.hid (HB3.out.trans (hb4.mono HB3.out.size)); have hcell := HC0.out w4 HB4.out; clear hb4)
                  | (go_at_call 18; refine (HOf.out _ _ _ _ H3.out).mono ?_; rintro e w3' ⟨rfl, rfl⟩)
                  | fail)
                go_ret3
                exact refopen_is HM.out ((H5.out.below (HB56.out.trans (hb7.mono HB56.out.size))).lower HB4.out.size) (HB6.out.trans (hb7.mono HB6.out.size))
              · rw [if_pos he] at hm0
                rw [decide_eq_false he] at HSm
                have HM := Lib.hid hm0
                clear hm0 he
                go_wp2_with (first
                  | (go_at_call 12; refine (HSm.out w6 A6 c6 HB6.out H6.out).mono ?_; rintro e w7 ⟨rfl, hb7⟩)
                  | (go_at_call 10; refine (HPk.out w5 A5 c5 H5.out.reads).mono ?_; rintro e w6 ⟨A6, c6, rfl, hr6, hb6⟩; have H6 := Lib.hid hr6; have HB56 := Lib.hid hb6; have HB6 := Lib.hid (HB5.out.trans (hb6.mono HB5.out.size)); clear hr6 hb6 hcell5)
                  | (go_at_call 16; refine (HCb.out w4 HB4.out).mono ?_; rintro e w5 ⟨A5, c5, rfl, ho5, hb5⟩; have H5 := Lib.hid ho5; have HB5 := Lib.hid (HB4.out.trans (hb5.mono HB4.out.size)); have hcell5 := HC0.out w5 HB5.out; clear ho5 hb5 hcell)
                  | (go_at_call 19; refine (HI2.out _ HB3.out).mono ?_; rintro e w4 ⟨rfl, hb4⟩; have HB4 := Lib.hid (HB3.out.trans (hb4.mono HB3.out.size)); have hcell := HC0.out w4 HB4.out; clear hb4)
                  | (go_at_call 18; refine (HOf.out _ _ _ _ H3.out).mono ?_; rintro e w3' ⟨rfl, rfl⟩)
                  | fail)
                go_ret3
                exact refopen_is HM.out (own_none _ _) (HB6.out.trans (hb7.mono HB6.out.size))
            · rw [if_pos hk] at hm0
              have HM := Lib.hid hm0
              have HPk := Lib.hid (fun W A c hr => refPack_none hn hk W A c (num (seg l 2 2)) hbody hr)
              clear hk hn hle hle' hnn hbody hkd256 hs hm0
              generalize pgKindOf l = kd at *
              generalize pgBody l = bd at *
              generalize num (seg l 2 2) = n at *
              go_wp2_with (first
                | (go_at_call 10; refine (HPk.out w5 A5 c5 H5.out.reads).mono ?_; rintro e w6 ⟨v6, rfl, hb6⟩)
                | (go_at_call 16; refine (HCb.out w4 HB4.out).mono ?_; rintro e w5 ⟨A5, c5, rfl, ho5, hb5⟩; have H5 := Lib.hid ho5; have HB5 := Lib.hid (HB4.out.trans (hb5.mono HB4.out.size)); have hcell5 := HC0.out w5 HB5.out; clear ho5 hb5 hcell)
                | (go_at_call 19; refine (HI2.out _ HB3.out).mono ?_; rintro e w4 ⟨rfl, hb4⟩; have HB4 := Lib.hid (HB3.out.trans (hb4.mono HB3.out.size)); have hcell := HC0.out w4 HB4.out; clear hb4)
                | (go_at_call 18; refine (HOf.out _ _ _ _ H3.out).mono ?_; rintro e w3' ⟨rfl, rfl⟩)
                | fail)
              go_ret3
              exact refopen_is HM.out (own_none _ _) (HB5.out.trans (hb6.mono HB5.out.size))
          · have hm : mOpen no l = (0, [], 4) := by
              unfold mOpen
              rw [if_neg (by simpa using hn), if_neg (by simpa using h256), if_neg (by rw [hs, ← HSeq.out]; simp), if_pos (.inr (by omega))]
            have HM := Lib.hid hm
            unfold pgLen at hle
            have hbi : (244 : Int) < (num (seg l 2 2) : Int) := by omega
            clear hm hs hle hn
            generalize num (seg l 2 2) = n at *
            go_wp2_with (first
              | (go_at_call 19; refine (HI2.out _ HB3.out).mono ?_; rintro e w4 ⟨rfl, hb4⟩; have HB4 := Lib.hid (HB3.out.trans (hb4.mono HB3.out.size)); have hcell := HC0.out w4 HB4.out; clear hb4)
              | (go_at_call 18; refine (HOf.out _ _ _ _ H3.out).mono ?_; rintro e w3' ⟨rfl, rfl⟩)
              | fail)
            go_ret3
            exact refopen_is HM.out (own_none _ _) HB4.out
        · have hm : mOpen no l = (0, [], 5) := by
            unfold mOpen
            rw [if_neg (by simpa using hn), if_neg (by simpa using h256), if_pos (by rw [← HSeq.out]; exact hs)]
          have HM := Lib.hid hm
          have hne : ((num (seg l 8 4) : Int) != (s : Int)) = true := by rw [bne_iff_ne]; omega
          clear hm hs
          go_wp2_with (first
            | (go_at_call 18; refine (HOf.out _ _ _ _ H3.out).mono ?_; rintro e w3' ⟨rfl, rfl⟩)
            | fail)
          go_ret3
          exact refopen_is HM.out (own_none _ _) HB3.out
      · have hm : mOpen no l = (0, [], 3) := by unfold mOpen; rw [if_neg (by simpa using hn), if_pos h256]
        have HM := Lib.hid hm
        have hne : ((l.length : Int) != 256) = true := by rw [bne_iff_ne]; omega
        clear hm h256 hr
        go_enter Try.func15, Try.ntmps15
        go_wp2_with fail
        go_ret3
        exact refopen_is HM.out (own_none _ _) (Below.refl _ _)
    · have hm : mOpen no l = (0, [], 1) := by unfold mOpen; rw [if_pos (by unfold pgNo; omega)]
      have HM := Lib.hid hm
      clear hm hr
      go_enter Try.func15, Try.ntmps15
      go_wp2_with fail
      go_ret3
      exact refopen_is HM.out (own_none _ _) (Below.refl _ _)
  · have hm : mOpen no l = (0, [], 1) := by unfold mOpen; rw [if_pos (by unfold pgNo; omega)]
    have HM := Lib.hid hm
    clear hm hr
    go_enter Try.func15, Try.ntmps15
    go_wp2_with fail
    go_ret3
    exact refopen_is HM.out (own_none _ _) (Below.refl _ _)
end Go.Proofs.Ytgpjhcpiemdbcaa
