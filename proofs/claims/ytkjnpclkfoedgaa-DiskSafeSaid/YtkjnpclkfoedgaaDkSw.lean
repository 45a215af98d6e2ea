/- The walk of octavolaw04.DiskSafe. Conditions: the arguments are in memory as named. -/
import Derived.Test.YtkjnpclkfoedgaaDkSf
import Derived.Deep.CutRange
import Derived.Deep.CutBlock
namespace Go.Proofs.Ytkjnpclkfoedgaa
open Go.RowKit
attribute [local go_sem ↓] Go.wp_at_zero Go.wp_at_succ

def nmOwn : ByteArray := ⟨#[111, 119, 110]⟩
theorem own_named : named nmOwn = true := by decide +kernel
theorem own_list : nmOwn.toList = [111, 119, 110] := by decide +kernel
def ownL (b : List UInt8) : List RF := if b = [] then [] else [⟨nmOwn, b, b, true⟩]
structure SafeR (p : Nat) (b : List UInt8) (w wr : World) (m : Nat) (s : RD) (F : Nat → Prop) : Prop where
  disk : DiskAt wr F p s
  well : Well s m
  held : Held s nmOwn (ownL b)
  below : Below w.heap.size w wr
  fr : ∀ q, F q → w.heap.size ≤ q
  lt : ∀ q, F q → q < wr.heap.size
theorem SafeR.quiet {p m : Nat} {b : List UInt8} {w wr w' : World} {s : RD} {F : Nat → Prop} (h : SafeR p b w wr m s F) (hb : Below wr.heap.size wr w') : SafeR p b w w' m s F :=
  ⟨h.disk.only (Only.of_below hb : Only (fun _ => False) wr w') fun _ _ => id, h.well, h.held, h.below.trans (hb.mono h.below.size), h.fr, fun q hq => Nat.lt_of_lt_of_le (h.lt q hq) hb.size⟩
theorem SafeR.op {p m m' : Nat} {b : List UInt8} {w wr w' : World} {s s' : RD} {F : Nat → Prop} (h : SafeR p b w wr m s F) (hd : DiskAt w' (Gr F wr w') p s') (ho : Only F wr w') (hw : Well s' m') (hh : Held s' nmOwn (ownL b)) : SafeR p b w w' m' s' (Gr F wr w') :=
  ⟨hd, hw, hh, h.below.trans (ho.below h.fr h.below.size), fun q hq => hq.elim (h.fr q) fun g => Nat.le_trans h.below.size g.1, fun q hq => hq.elim (fun g => Nat.lt_of_lt_of_le (h.lt q g) ho.size) fun g => g.2⟩

theorem safe_crash {p m : Nat} {b : List UInt8} {w wr : World} {s : RD} {F : Nat → Prop} (h : SafeR p b w wr m s F) (pk : List Int) (A : Option Addr) (c : Nat) (hpk : pk.length ≤ 9223372036854775807) (hpi : ∀ x ∈ pk, -9223372036854775808 ≤ x ∧ x ≤ 9223372036854775807) (hr : Reads w w.heap.size 1 A pk.length (pv_ pk)) :
    Calls Try.prog 17 #[.pointer (some ⟨p, 0, none⟩), .slice A pk.length c] wr fun e w' => e = .returned (.tuple #[]) ∧ SafeR p b w w' m (s.crash pk) (Gr F wr w') := by
  refine (disk_crash pk A c h.disk h.well hpk hpi ((hr.below h.below).more h.below.size) fun h0 ad e hf => ?_).mono fun e w' ⟨h1, h2, h3⟩ => ⟨h1, h.op h2 h3 ⟨h.well.ok.crash _, h.well.nice.crash _, h.well.small⟩ (h.held.crash pk)⟩
  obtain ⟨ad', e', h2, _⟩ := hr.2 h0
  rw [e] at e'
  cases e'
  have := h.fr _ hf
  omega
set_option maxRecDepth 100000 in
set_option maxHeartbeats 8000000 in
theorem safe_any (b : List UInt8) (Ab : Option Addr) (cb : Nat) (l : List (Cl × Option Addr × Nat)) (A : Option Addr) (c : Nat) (pk : List Int) (Aq : Option Addr) (cq : Nat) (w : World)
    (hbc : b.length ≤ cb) (_hcm : cb ≤ maxLen) (hrb : Reads w w.heap.size 1 Ab b.length (bv b)) (hc : ∀ k (h : k < l.length), CallIn w A k l[k]) (hpk : pk.length ≤ 9223372036854775807) (hpi : ∀ x ∈ pk, -9223372036854775808 ≤ x ∧ x ≤ 9223372036854775807) (hrp : Reads w w.heap.size 1 Aq pk.length (pv_ pk)) :
    Calls Try.prog 5 #[.slice Ab b.length cb, .slice A l.length c, .slice Aq pk.length cq] w fun e w' => e = .returned (.bool true) ∧ Below w.heap.size w w' := by
  have HNew := Lib.hid (disk_new 1048576 w (by omega))
  have HAw := Lib.hid awake_any
  have HC := Lib.hid hc
  have HRb := Lib.hid hrb
  have HRp := Lib.hid hrp
  have HPi := Lib.hid hpi
  clear hc hrb hrp hpi
  go_enter Try.func5, Try.ntmps5
  by_cases hbig : 5000 < b.length
  · have hbi : (5000 : Int) < (b.length : Int) := by omega
    go_wp2_with (first
      | (go_at_call 8; refine HNew.out.mono ?_; rintro e w1 (⟨hbad, -, -⟩ | ⟨-, p, F, rfl, hd1, hF1, hb1⟩); · omega)
      | (go_at_call 9; refine (HAw.out _).mono ?_; rintro e w2 ⟨rfl, hb2⟩; have HB2 := Lib.hid hb2; clear hb2))
    go_ret
    rename_i HB3
    exact ⟨rfl, (hb1.trans (HB3.out.mono hb1.size)).trans (HB2.out.mono (Nat.le_trans hb1.size HB3.out.size))⟩
  · have hbi : (b.length : Int) ≤ (5000 : Int) := by omega
    go_upto_region 4 with (first
      | (go_at_call 8; refine HNew.out.mono ?_; rintro e w1 (⟨hbad, -, -⟩ | ⟨-, p, F, rfl, hd1, hF1, hb1⟩); · omega)
      | (go_at_call 9; refine (HAw.out _).mono ?_; rintro e w2 ⟨rfl, hb2⟩))
    have hs1 := hb1.size
    have hR0 : Hid (DiskAt w2 F p (RD.new 1048576) ∧ Below w.heap.size w w2 ∧ (∀ q, F q → w.heap.size ≤ q) ∧ ∀ q, F q → q < w2.heap.size) := Lib.hid ⟨hd1.only (Only.of_below hb2 : Only (fun _ => False) w1 w2) fun _ _ => id, hb1.trans (hb2.mono hs1), fun q hq => (hF1 q hq).1, fun q hq => Nat.lt_of_lt_of_le (hF1 q hq).2 hb2.size⟩
    clear hd1 hF1 hb1 hb2
    go_cut [46] from 33 to 46 (fun s46 wx => s46 = .bool false ∧ ∃ (s : RD) (F' : Nat → Prop), Hid (SafeR p b w wx 5002 s F'))
    case first =>
      by_cases hb0 : b = []
      · subst hb0
        have HFin : Hid (SafeR p [] w w2 5002 (RD.new 1048576) F) := Lib.hid ⟨hR0.out.1, ⟨(new_ok 1048576 (by omega)).more (by omega), nice_new _ _ _ _ _ _, by omega⟩, held_new _, hR0.out.2.1, hR0.out.2.2.1, hR0.out.2.2.2⟩
        simp only [List.length_nil, Int.ofNat_zero]
        go_wp2_with fail
        go_meet
        exact ⟨rfl, _, _, HFin.out⟩
      · have hbp : 0 < b.length := List.length_pos_iff.2 hb0
        have hbpi : (0 : Int) < (b.length : Int) := by omega
        obtain ⟨hw1, hw2⟩ := start_well 1048576 b own_named ⟨by omega, by omega⟩ (by omega)
        have e1 := start_write 1048576 b own_named hb0 (by omega)
        have e2 := start_sync 1048576 b own_named
        have hH : Held (S2 1048576 nmOwn b) nmOwn (ownL b) := by unfold ownL; rw [if_neg hb0]; exact held_start _ _
        have HWr : Hid (Calls Try.prog 15 #[.pointer (some ⟨p, 0, none⟩), .string ⟨#[111, 119, 110]⟩, .int .i64 0, .slice Ab b.length cb] w2 fun e w' => DkOp F p (S1 1048576 nmOwn b) 0 w2 e w') := Lib.hid (by
          have h1 := disk_write nmOwn 0 b Ab cb hR0.out.1 (⟨new_ok 1048576 (by omega), nice_new _ _ _ _ _ _, by omega⟩ : Well (RD.new 1048576) 0) (by decide) (by omega) (by omega) ((HRb.out.below hR0.out.2.1).more hR0.out.2.1.size) (fun ad e hf => by
            obtain ⟨ad', e', h2, _⟩ := HRb.out.2 hbp
            rw [e] at e'
            cases e'
            have := hR0.out.2.2.1 _ hf
            omega) hbc
          rw [e1] at h1
          exact h1)
        have HSy : Hid (∀ W F', DiskAt W F' p (S1 1048576 nmOwn b) → Calls Try.prog 16 #[.pointer (some ⟨p, 0, none⟩), .string ⟨#[111, 119, 110]⟩] W fun e w' => DkOp F' p (S2 1048576 nmOwn b) 0 W e w') := Lib.hid (fun W F' hd => by
          have h1 := disk_sync nmOwn hd hw1 (by decide)
          rw [e2] at h1
          exact h1)
        have HH := Lib.hid hH
        have HW2 := Lib.hid hw2
        clear e1 e2 hH hw1 hw2
        go_wp2_with (first
          | (go_at_call 15; refine HWr.out.mono ?_; rintro e w3 ⟨rfl, hd3, ho3⟩)
          | (go_at_call 16; refine (HSy.out _ _ hd3).mono ?_; rintro e w4 ⟨rfl, hd4, ho4⟩))
        go_meet
        have b3 : Below w.heap.size w w3 := hR0.out.2.1.trans (ho3.below hR0.out.2.2.1 hR0.out.2.1.size)
        have f3 : ∀ q, Gr F w2 w3 q → w.heap.size ≤ q := fun q hq => hq.elim (hR0.out.2.2.1 q) fun g => Nat.le_trans hR0.out.2.1.size g.1
        exact ⟨rfl, _, _, ⟨hd4, HW2.out, HH.out, b3.trans (ho4.below f3 b3.size), fun q hq => hq.elim (f3 q) fun g => Nat.le_trans b3.size g.1, fun q hq => hq.elim (fun g => g.elim (fun g2 => Nat.lt_of_lt_of_le (hR0.out.2.2.2 q g2) (Nat.le_trans ho3.size ho4.size)) fun g2 => Nat.lt_of_lt_of_le g2.2 ho4.size) fun g => g.2⟩⟩
    case rest =>
      obtain ⟨rfl, s, F', HS⟩ := hcut
      have hsz := HS.out.below.size
      go_upto_region 8 with fail
      have hTwo : Two (wc.alloc (.cells #[.int .i64 1048576, .int .i64 0, .int .i64 0, .bool false, .bool false, .slice none 0 0, .slice none 0 0] 32)) F' (fun k => k = wc.heap.size) p wc.heap.size s (RD.new 1048576) :=
        ⟨HS.out.disk.only ((Only.refl (fun _ => False) wc).alloc _) fun _ _ => id, ref_new wc 1048576, fun k hk e => by have := HS.out.lt k hk; omega, fun k hk => by have := HS.out.lt k hk; simp; omega, fun k hk => by simp; omega⟩
      have HTwo := Lib.hid hTwo
      have HB0 : Hid (Below w.heap.size w (wc.alloc (.cells #[.int .i64 1048576, .int .i64 0, .int .i64 0, .bool false, .bool false, .slice none 0 0, .slice none 0 0] 32))) := Lib.hid (HS.out.below.alloc hsz _)
      have HFn : Hid ((∀ q, F' q → w.heap.size ≤ q) ∧ w.heap.size ≤ wc.heap.size) := Lib.hid ⟨HS.out.fr, hsz⟩
      have HW0 := Lib.hid HS.out.well
      have HW1 : Hid (Well (RD.new 1048576) 0) := Lib.hid ⟨new_ok 1048576 (by omega), nice_new _ _ _ _ _ _, by omega⟩
      have HH0 := Lib.hid HS.out.held
      generalize hpw : wc.heap.size = pw at *
      clear hTwo
      go_wp2_with fail
      go_loopw [10] (fun i wr => ∃ (k : Nat) (sd sw : RD) (Fd Fw : Nat → Prop), k ≤ l.length ∧ k ≤ 40 ∧ i = .int .i64 k ∧ Hid (Two wr Fd Fw p pw sd sw) ∧ Hid (Well sd (5002 + 400 * k)) ∧ Hid (Well sw (400 * k)) ∧ Hid (Held sd nmOwn (ownL b)) ∧ Hid (Below w.heap.size w wr) ∧ Hid ((∀ q, Fd q → w.heap.size ≤ q) ∧ (∀ q, Fw q → w.heap.size ≤ q))) (fun i _ => l.length - (intOf i).toNat)
      case atStart => exact ⟨0, s, RD.new 1048576, F', (fun k => k = pw), Nat.zero_le _, Nat.zero_le _, rfl, HTwo.out, HW0.out, HW1.out, HH0.out, HB0.out, HFn.out.1, fun q hq => by rw [hq]; exact HFn.out.2⟩
      case round =>
        obtain ⟨k, sd, sw, Fd, Fw, hk, hk40, rfl, HT, HWd, HWw, HHe, HB, HF⟩ := hrel
        by_cases hlt : k < l.length
        · by_cases h40 : k < 40
          · have hi : (k : Int) < (l.length : Int) := by omega
            have hi4 : (k : Int) < 40 := by omega
            have hi0 : (0 : Int) ≤ (k : Int) := by omega
            obtain ⟨⟨bb, o, rfl, hb, x0, x1, x2, x3, x4, x5⟩, hfit, hlen, hints, hrd⟩ := HC.out k hlt
            have hold := (HC.out k hlt).old
            generalize l[k] = cl at *
            obtain ⟨cl, Ap, cp⟩ := cl
            simp only at x0 x1 x2 x3 x4 x5 hfit hlen hints hrd hold
            have y0 := (HB.out.cell (p := ⟨bb, o + k * 6, none⟩) hb).trans x0
            have y1 := (HB.out.cell (p := ⟨bb, o + k * 6 + 1, none⟩) hb).trans x1
            have y2 := (HB.out.cell (p := ⟨bb, o + k * 6 + 2, none⟩) hb).trans x2
            have y3 := (HB.out.cell (p := ⟨bb, o + k * 6 + 3, none⟩) hb).trans x3
            have y4 := (HB.out.cell (p := ⟨bb, o + k * 6 + 4, none⟩) hb).trans x4
            have y5 := (HB.out.cell (p := ⟨bb, o + k * 6 + 5, none⟩) hb).trans x5
            by_cases hown : cl.name = nmOwn
            · have hst : (cl.name.toList == [111, 119, 110]) = true := by rw [← own_list]; exact str_yes hown
              have HFin := Lib.hid (And.intro (show Well sd (5002 + 400 * (k + 1)) from ⟨HWd.out.ok.more (by omega), HWd.out.nice, by omega⟩) (show Well sw (400 * (k + 1)) from ⟨HWw.out.ok.more (by omega), HWw.out.nice, by omega⟩))
              clear x0 x1 x2 x3 x4 x5 hfit hlen hints hrd hold hown
              go_wp2_with fail
              go_roundw
              case rel => exact ⟨k + 1, sd, sw, Fd, Fw, by omega, by omega, by go_num, HT.out, HFin.out.1, HFin.out.2, HHe.out, HB.out, HF.out⟩
              case measure => simp [intOf]; omega
            · have hst : (cl.name.toList == [111, 119, 110]) = false := by rw [← own_list]; exact str_no hown
              have hDo := does_any cl Ap cp (5002 + 400 * k) (400 * k) sd sw Fd Fw p pw wr HT.out HWd.out HWw.out hfit hlen hints ((hrd.below HB.out).more HB.out.size) fun h0 ad e => ⟨fun hf => by have := HF.out.1 _ hf; have := hold h0 ad e; omega, fun hf => by have := HF.out.2 _ hf; have := hold h0 ad e; omega⟩
              unfold DoesAt at hDo
              have HDo := Lib.hid hDo
              have hwd : Well (sd.step cl) (5002 + 400 * k + 400) := well_step HWd.out cl hfit (by omega)
              have hww : Well (sw.step cl) (400 * k + 400) := well_step HWw.out cl hfit (by omega)
              have HW2 := Lib.hid (And.intro hwd hww)
              have HHs := Lib.hid (HHe.out.step cl hown)
              clear hDo hwd hww x0 x1 x2 x3 x4 x5 hfit hlen hints hrd hold hown
              unfold Cl.enc at HDo
              generalize sd.step cl = sd1 at *
              generalize sw.step cl = sw1 at *
              generalize doesB sd sw cl = db at *
              go_wp2_with (go_at_call 10; refine HDo.out.mono ?_; rintro e w3 ⟨rfl, Fd1, Fw1, ht1, hf1, hf2, ho1⟩)
              go_roundw
              case rel =>
                have hs3 := HB.out.size
                have hb3 : Below w.heap.size w w3 := HB.out.trans (ho1.below (fun q hq => hq.elim (HF.out.1 q) (HF.out.2 q)) hs3)
                exact ⟨k + 1, sd1, sw1, Fd1, Fw1, by omega, by omega, by go_num, ht1, HW2.out.1, HW2.out.2, HHs.out, hb3, fun q hq => (hf1 q hq).elim (HF.out.1 q) fun h => by omega, fun q hq => (hf2 q hq).elim (HF.out.2 q) fun h => by omega⟩
              case measure => simp [intOf]; omega
          · have hi4 : (40 : Int) ≤ (k : Int) := by omega
            have hi : (k : Int) < (l.length : Int) := by omega
            have HEnd : Hid (∃ m F, SafeR p b w wr m sd F ∧ m ≤ 30000) := Lib.hid ⟨_, Fd, ⟨HT.out.d, HWd.out, HHe.out, HB.out, HF.out.1, HT.out.ld⟩, by omega⟩
            clear h40 hlt HT HWd HWw HHe HB HF HC
            obtain ⟨m, F0, hS, hm⟩ := HEnd.out
            have hCr := safe_crash hS pk Aq cq hpk HPi.out HRp.out
            have HCr := Lib.hid hCr
            have hbelow := hS.below.size
            clear hS hCr
            go_upto_region 13 with (go_at_call 17; refine HCr.out.mono ?_; rintro e w4 ⟨rfl, hS4⟩)
            have HCr2 := Lib.hid (safe_crash hS4 [] none 0 (by decide) (fun x hx => by cases hx) Reads.none_)
            clear hS4 HCr
            go_upto_region 14 with (go_at_call 17; refine HCr2.out.mono ?_; rintro e w5 ⟨rfl, hS5⟩)
            have HS5 := Lib.hid hS5
            have hRe := disk_read nmOwn 0 (b.length : Int) hS5.disk hS5.well (by decide) (by omega) (by omega)
            clear hS5 HCr2
            by_cases hb0 : b = []
            · have hh := HS5.out.held
              unfold ownL at hh
              rw [if_pos hb0] at hh
              rw [hh.read_none rfl own_named] at hRe
              have HRe : Hid (Calls Try.prog 18 #[.pointer (some ⟨p, 0, none⟩), .string ⟨#[111, 119, 110]⟩, .int .i64 0, .int .i64 (b.length : Int)] w5 fun e w' => ReadAt [] 6 w5 e w') := Lib.hid hRe
              have hbl : (b.length : Int) ≤ 0 := by rw [hb0]; simp
              clear hh hRe hb0
              go_upto_region 15 with (go_at_call 18; refine HRe.out.mono ?_; rintro e w6 ⟨v6, rfl, ho6, hb6⟩; obtain ⟨A6, c6, rfl, hc6, hm6, hr6, hA6⟩ := own_form ho6)
              have HFin := Lib.hid (HS5.out.below.trans (hb6.mono HS5.out.below.size))
              go_wp2_with fail
              go_ret
              exact ⟨rfl, HFin.out⟩
            · have hh := HS5.out.held
              unfold ownL at hh
              rw [if_neg hb0] at hh
              rw [hh.read HS5.out.well.nice rfl] at hRe
              have HRe : Hid (Calls Try.prog 18 #[.pointer (some ⟨p, 0, none⟩), .string ⟨#[111, 119, 110]⟩, .int .i64 0, .int .i64 (b.length : Int)] w5 fun e w' => ReadAt b 0 w5 e w') := Lib.hid hRe
              have HSz : Hid (∀ W, Below w5.heap.size w5 W → Calls Try.prog 19 #[.pointer (some ⟨p, 0, none⟩), .string ⟨#[111, 119, 110]⟩] W fun e w' => e = .returned (.int .i64 (b.length : Int)) ∧ Below W.heap.size W w') := Lib.hid (fun W hb => by
                have h1 := disk_size nmOwn (HS5.out.quiet hb).disk (HS5.out.quiet hb).well (by decide)
                rw [hh.size HS5.out.well.nice rfl] at h1
                exact h1)
              have hbl : (0 : Int) < (b.length : Int) := by have := List.length_pos_iff.2 hb0; omega
              clear hh hRe hb0
              go_upto_region 15 with (go_at_call 18; refine HRe.out.mono ?_; rintro e w6 ⟨v6, rfl, ho6, hb6⟩; obtain ⟨A6, c6, rfl, hc6, hm6, hr6, hA6⟩ := own_form ho6)
              have HB6 := Lib.hid (HS5.out.below.trans (hb6.mono HS5.out.below.size))
              have HB56 := Lib.hid hb6
              have HSame := Lib.hid (same_any b b A6 Ab w6.heap.size w.heap.size c6 cb w6 (by omega) (by omega) hr6 (HRb.out.below HB6.out))
              rw [decide_eq_true (rfl : b = b)] at HSame
              clear ho6 hb6 hr6 hA6
              go_wp2_with (first
                | (go_at_call 19; refine (HSz.out _ (HB56.out.trans (hb7.mono HB56.out.size))).mono ?_; rintro e w8 ⟨rfl, hb8⟩)
                | (go_at_call 20; refine HSame.out.mono ?_; rintro e w7 ⟨rfl, hb7⟩))
              have HFin := Lib.hid ((HB6.out.trans (hb7.mono HB6.out.size)).trans (hb8.mono (Nat.le_trans HB6.out.size hb7.size)))
              go_ret
              exact ⟨rfl, HFin.out⟩
        · have hi : (l.length : Int) ≤ (k : Int) := by omega
          have HEnd : Hid (∃ m F, SafeR p b w wr m sd F ∧ m ≤ 30000) := Lib.hid ⟨_, Fd, ⟨HT.out.d, HWd.out, HHe.out, HB.out, HF.out.1, HT.out.ld⟩, by omega⟩
          clear hlt HT HWd HWw HHe HB HF HC
          obtain ⟨m, F0, hS, hm⟩ := HEnd.out
          have hCr := safe_crash hS pk Aq cq hpk HPi.out HRp.out
          have HCr := Lib.hid hCr
          have hbelow := hS.below.size
          clear hS hCr
          go_upto_region 13 with (go_at_call 17; refine HCr.out.mono ?_; rintro e w4 ⟨rfl, hS4⟩)
          have HCr2 := Lib.hid (safe_crash hS4 [] none 0 (by decide) (fun x hx => by cases hx) Reads.none_)
          clear hS4 HCr
          go_upto_region 14 with (go_at_call 17; refine HCr2.out.mono ?_; rintro e w5 ⟨rfl, hS5⟩)
          have HS5 := Lib.hid hS5
          have hRe := disk_read nmOwn 0 (b.length : Int) hS5.disk hS5.well (by decide) (by omega) (by omega)
          clear hS5 HCr2
          by_cases hb0 : b = []
          · have hh := HS5.out.held
            unfold ownL at hh
            rw [if_pos hb0] at hh
            rw [hh.read_none rfl own_named] at hRe
            have HRe : Hid (Calls Try.prog 18 #[.pointer (some ⟨p, 0, none⟩), .string ⟨#[111, 119, 110]⟩, .int .i64 0, .int .i64 (b.length : Int)] w5 fun e w' => ReadAt [] 6 w5 e w') := Lib.hid hRe
            have hbl : (b.length : Int) ≤ 0 := by rw [hb0]; simp
            clear hh hRe hb0
            go_upto_region 15 with (go_at_call 18; refine HRe.out.mono ?_; rintro e w6 ⟨v6, rfl, ho6, hb6⟩; obtain ⟨A6, c6, rfl, hc6, hm6, hr6, hA6⟩ := own_form ho6)
            have HFin := Lib.hid (HS5.out.below.trans (hb6.mono HS5.out.below.size))
            go_wp2_with fail
            go_ret
            exact ⟨rfl, HFin.out⟩
          · have hh := HS5.out.held
            unfold ownL at hh
            rw [if_neg hb0] at hh
            rw [hh.read HS5.out.well.nice rfl] at hRe
            have HRe : Hid (Calls Try.prog 18 #[.pointer (some ⟨p, 0, none⟩), .string ⟨#[111, 119, 110]⟩, .int .i64 0, .int .i64 (b.length : Int)] w5 fun e w' => ReadAt b 0 w5 e w') := Lib.hid hRe
            have HSz : Hid (∀ W, Below w5.heap.size w5 W → Calls Try.prog 19 #[.pointer (some ⟨p, 0, none⟩), .string ⟨#[111, 119, 110]⟩] W fun e w' => e = .returned (.int .i64 (b.length : Int)) ∧ Below W.heap.size W w') := Lib.hid (fun W hb => by
              have h1 := disk_size nmOwn (HS5.out.quiet hb).disk (HS5.out.quiet hb).well (by decide)
              rw [hh.size HS5.out.well.nice rfl] at h1
              exact h1)
            have hbl : (0 : Int) < (b.length : Int) := by have := List.length_pos_iff.2 hb0; omega
            clear hh hRe hb0
            go_upto_region 15 with (go_at_call 18; refine HRe.out.mono ?_; rintro e w6 ⟨v6, rfl, ho6, hb6⟩; obtain ⟨A6, c6, rfl, hc6, hm6, hr6, hA6⟩ := own_form ho6)
            have HB6 := Lib.hid (HS5.out.below.trans (hb6.mono HS5.out.below.size))
            have HB56 := Lib.hid hb6
            have HSame := Lib.hid (same_any b b A6 Ab w6.heap.size w.heap.size c6 cb w6 (by omega) (by omega) hr6 (HRb.out.below HB6.out))
            rw [decide_eq_true (rfl : b = b)] at HSame
            clear ho6 hb6 hr6 hA6
            go_wp2_with (first
              | (go_at_call 19; refine (HSz.out _ (HB56.out.trans (hb7.mono HB56.out.size))).mono ?_; rintro e w8 ⟨rfl, hb8⟩)
              | (go_at_call 20; refine HSame.out.mono ?_; rintro e w7 ⟨rfl, hb7⟩))
            have HFin := Lib.hid ((HB6.out.trans (hb7.mono HB6.out.size)).trans (hb8.mono (Nat.le_trans HB6.out.size hb7.size)))
            go_ret
            exact ⟨rfl, HFin.out⟩
end Go.Proofs.Ytkjnpclkfoedgaa
