/- Contract of octavolaw04.does, third part: Load. Contract of octavolaw04.does, fourth part: Read. Conditions: those that each theorem names. -/
import Derived.Test.YtoihkanneiknkaaDkDa
namespace Go.Proofs.Ytoihkanneiknkaa
open Go.RowKit
attribute [local go_sem ↓] Go.wp_at_zero Go.wp_at_succ

theorem does_mid {w wA w1 w1' w1q w2 w3 : World} {Fd Fw G : Nat → Prop} {pd pw : Nat} {sd sw sd' sw' : RD} (h : Two w Fd Fw pd pw sd sw) (hA : Below w.heap.size w wA) (hd : DiskAt w1 (Gr Fd wA w1) pd sd') (ho1 : Only Fd wA w1) (hm : Only G w1 w1') (g1 : ∀ k, Gr Fd wA w1 k → ¬ G k) (g2 : ∀ k, Fw k → ¬ G k) (g3 : ∀ k, G k → w.heap.size ≤ k)
    (hq : Below w1'.heap.size w1' w1q) (hr : RefAt w2 (Gr Fw w1q w2) pw sw') (ho2 : Only Fw w1q w2) (hb2 : Below w2.heap.size w2 w3) :
    ∃ Fd' Fw', Two w3 Fd' Fw' pd pw sd' sw' ∧ (∀ k, Fd' k → Fd k ∨ w.heap.size ≤ k) ∧ (∀ k, Fw' k → Fw k ∨ w.heap.size ≤ k) ∧ Only (fun k => Fd k ∨ Fw k) w w3 := by
  have t1 := ((((h.quiet hA).dOp hd ho1).only hm g1 g2).quiet hq).rOp hr ho2
  have s1 := hA.size
  have s2 := ho1.size
  have s3 := hm.size
  have s4 := hq.size
  have s5 := ho2.size
  refine ⟨_, _, t1.quiet hb2, fun k hk => hk.elim .inl fun h1 => .inr (by omega), fun k hk => hk.elim .inl fun h1 => .inr (by omega), ?_⟩
  have o1 : Only (fun k => Fd k ∨ Fw k) w wA := Only.of_below hA
  have o2 := o1.trans (ho1.mono fun k _ hk => (.inl hk : Fd k ∨ Fw k)) fun _ _ h => h
  have o3 := o2.trans hm fun k hk hg => absurd (g3 k hg) (by omega)
  have o4 := o3.trans (Only.of_below hq : Only (fun k => Fd k ∨ Fw k) w1' w1q) fun _ _ h => h
  have o5 := o4.trans (ho2.mono fun k _ hk => (.inr hk : Fd k ∨ Fw k)) fun _ _ h => h
  exact o5.trans (Only.of_below hb2 : Only (fun k => Fd k ∨ Fw k) w2 w3) fun _ _ h => h

set_option maxRecDepth 100000 in
set_option maxHeartbeats 4000000 in
theorem does_load (c : Cl) (pv : Value) (md mw : Nat) (sd sw : RD) (Fd Fw : Nat → Prop) (pd pw : Nat) (w : World) (h : Two w Fd Fw pd pw sd sw) (hod : Well sd md) (how : Well sw mw) (hc : c.Fit) (hk : c.kind = 5) :
    Calls Try.prog 10 #[.pointer (some ⟨pd, 0, none⟩), .pointer (some ⟨pw, 0, none⟩), c.enc pv] w fun e w' => DoesAt Fd Fw pd pw sd sw c w e w' := by
  have H := Lib.hid h
  have hbl := c.bytes_length
  have HBy := Lib.hid (fun W => bytes_any c pv W)
  have HD := Lib.hid (fun W A k (hb : Below w.heap.size w W) (hr : Reads W W.heap.size 1 A c.bytes.length (bv c.bytes)) (hs : ∀ ad, A = some ad → ¬ Fd ad.block) => disk_load c.name c.bytes A k (h.quiet hb).d hod hc.name (by omega) hr hs)
  have HW := Lib.hid (fun W F A k (hr : RefAt W F pw sw) (hp : Reads W W.heap.size 1 A c.bytes.length (bv c.bytes)) (hs : ∀ ad, A = some ad → ¬ F ad.block) => ref_load c.name c.bytes A k hr how.ok how.small hc.name (by omega) hp hs)
  have hB : doesB sd sw c = decide ((sd.load c.name c.bytes).2 = (sw.load c.name c.bytes).2) := by unfold doesB; rw [if_neg (by omega), if_neg (by omega), if_neg (by omega), if_neg (by omega), if_pos hk]
  have hd1 : sd.step c = (sd.load c.name c.bytes).1 := by unfold RD.step; rw [if_neg (by omega), if_neg (by omega), if_neg (by omega), if_neg (by omega), if_pos hk]
  have hw1 : sw.step c = (sw.load c.name c.bytes).1 := by unfold RD.step; rw [if_neg (by omega), if_neg (by omega), if_neg (by omega), if_neg (by omega), if_pos hk]
  have HT := Lib.hid (And.intro hB (And.intro hd1 hw1))
  unfold Cl.enc at HBy ⊢
  rw [hk] at HBy ⊢
  clear h hB hd1 hw1
  generalize (sd.load c.name c.bytes).2 = a at *
  generalize (sw.load c.name c.bytes).2 = b at *
  generalize hbs : c.bytes = bs at *
  have hab : ((a : Int) == (b : Int)) = decide (a = b) := by rw [Bool.eq_iff_iff, beq_iff_eq, decide_eq_true_iff]; omega
  have HBs := Lib.hid hbs
  clear hbs
  obtain ⟨wA, hwA⟩ : ∃ wA : World, wA = w.alloc (.cells #[.int .i64 5, .string c.name, .int .i64 c.n, .int .i64 c.len, .int .u8 (c.x.toNat : Int), pv] 36) := ⟨_, rfl⟩
  have hblk : Blk wA w.heap.size 36 #[.int .i64 5, .string c.name, .int .i64 c.n, .int .i64 c.len, .int .u8 (c.x.toNat : Int), pv] := by rw [hwA]; exact heap_alloc_new _ _
  have HBA : Hid (Below w.heap.size w wA) := Lib.hid (by rw [hwA]; exact (Below.refl _ _).alloc (Nat.le_refl _) _)
  have hsz : wA.heap.size = w.heap.size + 1 := by rw [hwA]; simp
  have HBlk := Lib.hid hblk
  have a0 : wA.cell? ⟨w.heap.size, 0, none⟩ = some (.int .i64 5) := by rw [hblk.cell]; rfl
  have a1 : wA.cell? ⟨w.heap.size, 1, none⟩ = some (.string c.name) := by rw [hblk.cell]; rfl
  have a2 : wA.cell? ⟨w.heap.size, 2, none⟩ = some (.int .i64 c.n) := by rw [hblk.cell]; rfl
  have a3 : wA.cell? ⟨w.heap.size, 3, none⟩ = some (.int .i64 c.len) := by rw [hblk.cell]; rfl
  have a4 : wA.cell? ⟨w.heap.size, 4, none⟩ = some (.int .u8 (c.x.toNat : Int)) := by rw [hblk.cell]; rfl
  have a5 : wA.cell? ⟨w.heap.size, 5, none⟩ = some pv := by rw [hblk.cell]; rfl
  have hlt : w.heap.size < wA.heap.size := by omega
  generalize c.x.toNat = xx at *
  go_enter Try.func10, Try.ntmps10
  go_upto_region 25 with fail
  rw [← hwA]
  clear hwA hblk
  go_wp2_with (first
    | (go_at_call 12; refine (HD.out _ A7 c7 HB1.out hr7 hs7).mono ?_; rintro e w2 ⟨rfl, hd2, ho2⟩)
    | (go_at_call 22; refine (HBy.out wA).mono ?_; rintro e w1 ⟨v1, rfl, ho1, hb1⟩; obtain ⟨A7, c7, rfl, hc7, hm7, hr7, hA7⟩ := own_form ho1; have HB1 := Lib.hid (HBA.out.trans (hb1.mono (by omega))); have hs7 : ∀ ad, A7 = some ad → ¬ Fd ad.block := (fun ad e hf => by have := H.out.ld _ hf; have := (hA7 ad e).1; omega); have b1 := (hb1.cell (p := ⟨w.heap.size, 1, none⟩) hlt).trans a1; have hl1 : w.heap.size < w1.heap.size := Nat.lt_of_lt_of_le hlt hb1.size))
  have hown2 : w2.ownsRow (wA.heap.size + 1) 5 1 (.slice A7 bs.length c7) bs.length (bv bs) := own_only ho1 ho2 fun k hk hf => by
    have h1 := own_ge ho1 k hk
    have h2 := H.out.ld k hf
    omega
  have HOw := Lib.hid hown2
  have HD2 := Lib.hid hd2
  have HO2 := Lib.hid ho2
  have hge := own_ge ho1
  have hlo : ∀ k, (Value.slice A7 bs.length c7).ownBlock = some k → k < w1.heap.size := fun k hk => (ho1.lt k hk).2
  have HGe := Lib.hid hge
  have HLo := Lib.hid hlo
  have HBlk2 := Lib.hid ((HBlk.out.below hb1 hlt).only ho2 (fun hf => by have := H.out.ld _ hf; omega))
  clear ho1 hb1 hown2 hd2 ho2 hr7 hs7 hA7 hge hlo a0 a1 a2 a3 a4 a5 b1
  go_loopw [19] (fun i wr => ∃ (k : Nat) (l' : List UInt8), k ≤ bs.length ∧ i = .int .i64 k ∧ l'.length = bs.length ∧ Hid (wr.ownsRow (wA.heap.size + 1) 5 1 (.slice A7 bs.length c7) bs.length (bv l')) ∧ Hid (Only (fun q => (Value.slice A7 bs.length c7).ownBlock = some q) w2 wr)) (fun i _ => bs.length - (intOf i).toNat)
  case atStart => exact ⟨0, bs, Nat.zero_le _, rfl, rfl, HOw.out, Only.refl _ _⟩
  case round =>
    obtain ⟨k, l', hk', rfl, hl', HO, HOn⟩ := hrel
    by_cases hltk : k < bs.length
    · obtain ⟨g, cap, hv2, hbg, _⟩ := HO.out.form (by omega)
      obtain ⟨rfl, rfl⟩ : A7 = some ⟨g, 0, none⟩ ∧ c7 = cap := by simpa using hv2
      have hcell := HO.out.cellAt k (by omega)
      have hget : (bv l')[k]? = some (.int .u8 ((l'[k]'(by omega)).toNat : Int)) := bv_get _ _ _
      rw [hget] at hcell
      have hfr := HO.out.frozenAt k
      have hst := HO.out.stored k (.int .u8 (((98 : UInt8).toNat : Nat) : Int))
      rw [bv_set] at hst
      have HST := Lib.hid hst.1
      have HON := Lib.hid (HOn.out.setCell (p := ⟨g, k, none⟩) (.inl rfl) (.int .u8 (((98 : UInt8).toNat : Nat) : Int)))
      have h98 : (((98 : UInt8).toNat : Nat) : Int) = 98 := rfl
      rw [h98] at HST HON
      have hi : (k : Int) < (bs.length : Int) := by omega
      clear hget hst hv2
      generalize (l'[k]'(by omega)).toNat = x at *
      go_wp2
      go_roundw
      case rel => exact ⟨k + 1, _, by omega, by go_num, by simpa using hl', HST, HON⟩
      case measure => simp [intOf]; omega
    · obtain rfl : k = bs.length := by omega
      have hblk3 := HBlk2.out.only HOn.out (fun e => by have := HGe.out _ e; omega)
      have a0 : wr.cell? ⟨w.heap.size, 0, none⟩ = some (.int .i64 5) := by rw [hblk3.cell]; rfl
      have a1 : wr.cell? ⟨w.heap.size, 1, none⟩ = some (.string c.name) := by rw [hblk3.cell]; rfl
      have a2 : wr.cell? ⟨w.heap.size, 2, none⟩ = some (.int .i64 c.n) := by rw [hblk3.cell]; rfl
      have a3 : wr.cell? ⟨w.heap.size, 3, none⟩ = some (.int .i64 c.len) := by rw [hblk3.cell]; rfl
      have a4 : wr.cell? ⟨w.heap.size, 4, none⟩ = some (.int .u8 (xx : Int)) := by rw [hblk3.cell]; rfl
      have a5 : wr.cell? ⟨w.heap.size, 5, none⟩ = some pv := by rw [hblk3.cell]; rfl
      have hlt3 := hblk3.lt
      have g1 : ∀ k, Gr Fd w1 w2 k → ¬ (Value.slice A7 bs.length c7).ownBlock = some k := fun k hk e => by
        have e1 := HGe.out k e
        have e2 := HLo.out k e
        rcases hk with h1 | h1
        · have := H.out.ld k h1
          omega
        · omega
      have g2 : ∀ k, Fw k → ¬ (Value.slice A7 bs.length c7).ownBlock = some k := fun k hk e => by
        have e1 := HGe.out k e
        have := H.out.lw k hk
        omega
      have HT3 := Lib.hid (((H.out.quiet HB1.out).dOp HD2.out HO2.out).only HOn.out g1 g2)
      have HG := Lib.hid (And.intro g1 g2)
      clear g1 g2 hblk3 hltk
      go_upto_region 31 with fail
      go_region_held3 (fun w' => w'.cell? ⟨w.heap.size, 0, none⟩ = some (.int .i64 5) ∧ w'.cell? ⟨w.heap.size, 1, none⟩ = some (.string c.name) ∧ w'.cell? ⟨w.heap.size, 2, none⟩ = some (.int .i64 c.n) ∧ w'.cell? ⟨w.heap.size, 3, none⟩ = some (.int .i64 c.len) ∧ w'.cell? ⟨w.heap.size, 4, none⟩ = some (.int .u8 (xx : Int)) ∧ w'.cell? ⟨w.heap.size, 5, none⟩ = some pv)
        (first
          | exact ⟨a0, a1, a2, a3, a4, a5⟩
          | exact ⟨hcc 0 a0, hcc 1 a1, hcc 2 a2, hcc 3 a3, hcc 4 a4, hcc 5 a5⟩
          | exact ⟨hbb 0 a0, hbb 1 a1, hbb 2 a2, hbb 3 a3, hbb 4 a4, hbb 5 a5⟩
          | go_keep)
        (first
          | (go_at_call 34; refine (HW.out w4 Fw A4 c4 (HT3.out.quiet b34).r hr4 hs4).mono ?_; rintro e w5 ⟨rfl, hr5, ho5⟩; have hcc : ∀ j {u : Value}, wr.cell? ⟨w.heap.size, j, none⟩ = some u → w5.cell? ⟨w.heap.size, j, none⟩ = some u := (fun j u hu => (ho5.cell (p := ⟨w.heap.size, j, none⟩) (Nat.lt_of_lt_of_le hlt3 b34.size) (fun hf => by have := H.out.lw _ hf; simp at this)).trans (hbb j hu)); have HFin := Lib.hid (does_mid H.out HB1.out HD2.out HO2.out HOn.out HG.out.1 HG.out.2 (fun k e => by have := HGe.out k e; omega) b34 hr5 ho5 (Below.refl _ _)))
          | (go_at_call 22; refine (HBy.out wr.drew).mono ?_; rintro e w4 ⟨v4, rfl, ho4, hb4⟩; obtain ⟨A4, c4, rfl, hc4, hm4, hr4, hA4⟩ := own_form ho4; have b34 : Below wr.heap.size wr w4 := below_of_drew hb4; have hs4 : ∀ ad, A4 = some ad → ¬ Fw ad.block := (fun ad e hf => by have := HT3.out.lw _ hf; have := (hA4 ad e).1; simp at this; omega); have hbb : ∀ j {u : Value}, wr.cell? ⟨w.heap.size, j, none⟩ = some u → w4.cell? ⟨w.heap.size, j, none⟩ = some u := (fun j u hu => (b34.cell (p := ⟨w.heap.size, j, none⟩) hlt3).trans hu))
          | fail)
      all_goals
        clear hr5 ho5
        go_wp2_with fail
        go_ret
        unfold DoesAt
        rw [HT.out.1, HT.out.2.1, HT.out.2.2]
        exact ⟨rfl, HFin.out⟩
end Go.Proofs.Ytoihkanneiknkaa

namespace Go.Proofs.Ytoihkanneiknkaa
open Go.RowKit
attribute [local go_sem ↓] Go.wp_at_zero Go.wp_at_succ

set_option maxRecDepth 100000 in
set_option maxHeartbeats 4000000 in
theorem does_read (c : Cl) (pv : Value) (md mw : Nat) (sd sw : RD) (Fd Fw : Nat → Prop) (pd pw : Nat) (w : World) (h : Two w Fd Fw pd pw sd sw) (hod : Well sd md) (how : Well sw mw) (hc : c.Fit) (hk : c.kind = 4) :
    Calls Try.prog 10 #[.pointer (some ⟨pd, 0, none⟩), .pointer (some ⟨pw, 0, none⟩), c.enc pv] w fun e w' => DoesAt Fd Fw pd pw sd sw c w e w' := by
  have H := Lib.hid h
  have HD := Lib.hid (fun W (hb : Below w.heap.size w W) => disk_read c.name c.n c.len (h.quiet hb).d hod hc.name hc.n hc.len)
  have HW := Lib.hid (fun W (hb : Below w.heap.size w W) => ref_read c.name c.n c.len (h.quiet hb).r how.ok how.small hc.name hc.n hc.len)
  have hB : doesB sd sw c = decide (sd.read c.name c.n c.len = sw.read c.name c.n c.len) := by unfold doesB; rw [if_neg (by omega), if_neg (by omega), if_neg (by omega), if_pos hk]
  have hd1 : sd.step c = sd := by unfold RD.step; rw [if_neg (by omega), if_neg (by omega), if_neg (by omega), if_pos hk]
  have hw1 : sw.step c = sw := by unfold RD.step; rw [if_neg (by omega), if_neg (by omega), if_neg (by omega), if_pos hk]
  have HT := Lib.hid (And.intro hB (And.intro hd1 hw1))
  unfold Cl.enc
  rw [hk]
  clear h hB hd1 hw1
  rcases hr1 : sd.read c.name c.n c.len with ⟨l1, n1⟩
  rcases hr2 : sw.read c.name c.n c.len with ⟨l2, n2⟩
  rw [hr1] at HD HT
  rw [hr2] at HW HT
  simp only [Prod.mk.injEq] at HT
  clear hr1 hr2
  unfold ReadAt at HD HW
  obtain ⟨wA, hwA⟩ : ∃ wA : World, wA = w.alloc (.cells #[.int .i64 4, .string c.name, .int .i64 c.n, .int .i64 c.len, .int .u8 (c.x.toNat : Int), pv] 36) := ⟨_, rfl⟩
  have hblk : Blk wA w.heap.size 36 #[.int .i64 4, .string c.name, .int .i64 c.n, .int .i64 c.len, .int .u8 (c.x.toNat : Int), pv] := by rw [hwA]; exact heap_alloc_new _ _
  have HBA : Hid (Below w.heap.size w wA) := Lib.hid (by rw [hwA]; exact (Below.refl _ _).alloc (Nat.le_refl _) _)
  have hsz : wA.heap.size = w.heap.size + 1 := by rw [hwA]; simp
  have a1 : wA.cell? ⟨w.heap.size, 1, none⟩ = some (.string c.name) := by rw [hblk.cell]; rfl
  have a2 : wA.cell? ⟨w.heap.size, 2, none⟩ = some (.int .i64 c.n) := by rw [hblk.cell]; rfl
  have a3 : wA.cell? ⟨w.heap.size, 3, none⟩ = some (.int .i64 c.len) := by rw [hblk.cell]; rfl
  have hlt : w.heap.size < wA.heap.size := by omega
  have hway : (l1 = l2) ∨ l1 ≠ l2 := Classical.em _
  have hnn : ((n1 : Int) == (n2 : Int)) = decide (n1 = n2) := by rw [Bool.eq_iff_iff, beq_iff_eq, decide_eq_true_iff]; omega
  go_enter Try.func10, Try.ntmps10
  go_upto_region 18 with (first
    | (go_at_call 33; refine (HW.out w1 (HBA.out.trans (hb1.mono (by omega)))).mono ?_; rintro e w2 ⟨v2, rfl, ho2, hb2⟩; obtain ⟨A8, c8, rfl, hc8, hm8, hr8, hA8⟩ := own_form ho2)
    | (go_at_call 18; rw [← hwA]; refine (HD.out wA HBA.out).mono ?_; rintro e w1 ⟨v1, rfl, ho1, hb1⟩; obtain ⟨A7, c7, rfl, hc7, hm7, hr7, hA7⟩ := own_form ho1; have b1 := (hb1.cell (p := ⟨w.heap.size, 1, none⟩) hlt).trans a1; have b2 := (hb1.cell (p := ⟨w.heap.size, 2, none⟩) hlt).trans a2; have b3 := (hb1.cell (p := ⟨w.heap.size, 3, none⟩) hlt).trans a3; have hl1 : w.heap.size < w1.heap.size := Nat.lt_of_lt_of_le hlt hb1.size))
  have BA1 := HBA.out.trans (hb1.mono (by omega))
  have HSame := Lib.hid (same_any l1 l2 A7 A8 w1.heap.size w2.heap.size c7 c8 w2 (by omega) (by omega) (hr7.below hb2) hr8)
  have HO1 := Lib.hid (own_only ho1 (Only.of_below hb2 : Only (fun _ => False) w1 w2) fun _ _ => id)
  have HGe := Lib.hid (own_ge ho1)
  have HB2 := Lib.hid (BA1.trans (hb2.mono BA1.size))
  have hm7' : l1.length ≤ 9223372036854775807 := by unfold maxLen at hm7; omega
  clear ho1 hb1 ho2 hb2 BA1 hr7 hr8 hA7 hA8 hwA hblk a1 a2 a3 b1 b2 b3
  go_cut [15] (fun s15 wx => s15 = .bool (decide (l1 = l2 ∧ n1 = n2)) ∧ Hid (Below w2.heap.size w2 wx))
  case first =>
    rcases hway with he | he
    · rw [decide_eq_true he] at HSame
      have HE : Hid (decide (l1 = l2 ∧ n1 = n2) = decide (n1 = n2)) := Lib.hid (by simp [he])
      clear he
      go_wp2_with (go_at_call 20; refine HSame.out.mono ?_; rintro e w3 ⟨rfl, hb3⟩)
      go_meet
      exact ⟨by rw [HE.out], hb3⟩
    · rw [decide_eq_false he] at HSame
      have HE : Hid (decide (l1 = l2 ∧ n1 = n2) = false) := Lib.hid (by simp [he])
      clear he
      go_wp2_with (go_at_call 20; refine HSame.out.mono ?_; rintro e w3 ⟨rfl, hb3⟩)
      go_meet
      exact ⟨by rw [HE.out], hb3⟩
  case rest =>
    obtain ⟨rfl, HBc⟩ := hcut
    have HOc := Lib.hid (own_only HO1.out (Only.of_below HBc.out : Only (fun _ => False) w2 wc) fun _ _ => id)
    clear hway
    go_wp2_with fail
    go_loopw [16] (fun i wr => ∃ (k : Nat) (l' : List UInt8), k ≤ l1.length ∧ i = .int .i64 k ∧ l'.length = l1.length ∧ Hid (wr.ownsRow wA.heap.size 5 1 (.slice A7 l1.length c7) l1.length (bv l')) ∧ Hid (Only (fun q => (Value.slice A7 l1.length c7).ownBlock = some q) wc wr)) (fun i _ => l1.length - (intOf i).toNat)
    case atStart => exact ⟨0, l1, Nat.zero_le _, rfl, rfl, HOc.out, Only.refl _ _⟩
    case round =>
      obtain ⟨k, l', hk', rfl, hl', HO, HOn⟩ := hrel
      by_cases hltk : k < l1.length
      · obtain ⟨g, cap, hv2, hbg, _⟩ := HO.out.form (by omega)
        obtain ⟨rfl, rfl⟩ : A7 = some ⟨g, 0, none⟩ ∧ c7 = cap := by simpa using hv2
        have hcell := HO.out.cellAt k (by omega)
        have hget : (bv l')[k]? = some (.int .u8 ((l'[k]'(by omega)).toNat : Int)) := bv_get _ _ _
        rw [hget] at hcell
        have hfr := HO.out.frozenAt k
        have hst := HO.out.stored k (.int .u8 (((l'[k]'(by omega) + 1).toNat : Nat) : Int))
        rw [bv_set] at hst
        have hx1 : (((l'[k]'(by omega) + 1).toNat : Nat) : Int) = (((l'[k]'(by omega)).toNat : Int) + 1) % 256 := by
          rw [UInt8.toNat_add]
          show ((((l'[k]'(by omega)).toNat + 1) % 256 : Nat) : Int) = _
          omega
        have HST := Lib.hid hst.1
        have HON := Lib.hid (HOn.out.setCell (p := ⟨g, k, none⟩) (.inl rfl) (.int .u8 (((l'[k]'(by omega) + 1).toNat : Nat) : Int)))
        rw [hx1] at HST HON
        have hl2 : (l'.set k (l'[k]'(by omega) + 1)).length = l1.length := by simpa using hl'
        have hi : (k : Int) < (l1.length : Int) := by omega
        clear hget hst hv2 hx1
        generalize l'.set k (l'[k]'(by omega) + 1) = l'' at *
        generalize (l'[k]'(by omega)).toNat = x at *
        go_wp2
        go_roundw
        case rel => exact ⟨k + 1, l'', by omega, by go_num, hl2, HST, HON⟩
        case measure => simp [intOf]; omega
      · obtain rfl : k = l1.length := by omega
        clear hltk
        have HBwc := Lib.hid (HB2.out.trans (HBc.out.mono HB2.out.size))
        have hTwo : Two wr Fd Fw pd pw sd sw := (H.out.quiet HBwc.out).only HOn.out (fun k hk e => by have := H.out.ld k hk; have := HGe.out k e; omega) fun k hk e => by have := H.out.lw k hk; have := HGe.out k e; omega
        have hOn : Only (fun k => Fd k ∨ Fw k) w wr := (Only.of_below HBwc.out : Only (fun k => Fd k ∨ Fw k) w wc).trans HOn.out fun k hk e => absurd (HGe.out k e) (by omega)
        have HFin := Lib.hid (And.intro hTwo hOn)
        clear hTwo hOn
        go_wp2_with fail
        go_ret
        unfold DoesAt
        rw [HT.out.1, HT.out.2.1, HT.out.2.2]
        exact ⟨rfl, Fd, Fw, HFin.out.1, fun _ h => .inl h, fun _ h => .inl h, HFin.out.2⟩
end Go.Proofs.Ytoihkanneiknkaa
