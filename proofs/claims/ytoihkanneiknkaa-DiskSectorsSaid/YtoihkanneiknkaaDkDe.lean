/- Contract of octavolaw04.does, fifth part: Write. Conditions: those that each theorem names. -/
import Derived.Test.YtoihkanneiknkaaDkDc
import Derived.Test.YtoihkanneiknkaaLent
namespace Go.Proofs.Ytoihkanneiknkaa
open Go.RowKit
attribute [local go_sem ↓] Go.wp_at_zero Go.wp_at_succ

theorem LentAt.only {w w' : World} {base : Nat} {v : Value} {l : List UInt8} {G : Nat → Prop} (h : LentAt w base v l) (ho : Only G w w') (hn : ∀ k, base ≤ k → ¬ G k) : LentAt w' base v l := by
  obtain ⟨g, cap, cur, rfl, h1, hh, h2⟩ := h
  have hblk : Blk w g 5 cur := hh
  exact ⟨g, cap, cur, rfl, h1, hblk.only ho (hn g h1), h2⟩

set_option maxRecDepth 100000 in
set_option maxHeartbeats 4000000 in
theorem does_write (c : Cl) (pv : Value) (md mw : Nat) (sd sw : RD) (Fd Fw : Nat → Prop) (pd pw : Nat) (w : World) (h : Two w Fd Fw pd pw sd sw) (hod : Well sd md) (how : Well sw mw) (hc : c.Fit) (hk : c.kind = 1) :
    Calls Try.prog 10 #[.pointer (some ⟨pd, 0, none⟩), .pointer (some ⟨pw, 0, none⟩), c.enc pv] w fun e w' => DoesAt Fd Fw pd pw sd sw c w e w' := by
  have H := Lib.hid h
  have hbl := c.bytes_length
  have HBy := Lib.hid (fun W => bytes_any c pv W)
  have HD := Lib.hid (fun W A k (hb : Below w.heap.size w W) (hr : Reads W W.heap.size 1 A c.bytes.length (bv c.bytes)) (hs : ∀ ad, A = some ad → ¬ Fd ad.block) (hl : c.bytes.length ≤ k) => disk_write c.name c.n c.bytes A k (h.quiet hb).d hod hc.name hc.n (by omega) hr hs hl)
  have HW := Lib.hid (fun W F A k (hr : RefAt W F pw sw) (hp : Reads W W.heap.size 1 A c.bytes.length (bv c.bytes)) (hs : ∀ ad, A = some ad → ¬ F ad.block) (hl : c.bytes.length ≤ k) => ref_write c.name c.n c.bytes A k hr how.ok how.small hc.name hc.n (by omega) hp hs hl)
  have hB : doesB sd sw c = decide ((sd.write c.name c.n c.bytes).2 = (sw.write c.name c.n c.bytes).2) := by unfold doesB; rw [if_pos hk]
  have hd1 : sd.step c = (sd.write c.name c.n c.bytes).1 := by unfold RD.step; rw [if_pos hk]
  have hw1 : sw.step c = (sw.write c.name c.n c.bytes).1 := by unfold RD.step; rw [if_pos hk]
  have HT := Lib.hid (And.intro hB (And.intro hd1 hw1))
  unfold Cl.enc at HBy ⊢
  rw [hk] at HBy ⊢
  clear h hB hd1 hw1
  generalize (sd.write c.name c.n c.bytes).2 = a at *
  generalize (sw.write c.name c.n c.bytes).2 = b at *
  generalize hbs : c.bytes = bs at *
  have hab : ((a : Int) == (b : Int)) = decide (a = b) := by rw [Bool.eq_iff_iff, beq_iff_eq, decide_eq_true_iff]; omega
  have HBs := Lib.hid hbs
  clear hbs
  obtain ⟨wA, hwA⟩ : ∃ wA : World, wA = w.alloc (.cells #[.int .i64 1, .string c.name, .int .i64 c.n, .int .i64 c.len, .int .u8 (c.x.toNat : Int), pv] 36) := ⟨_, rfl⟩
  have hblk : Blk wA w.heap.size 36 #[.int .i64 1, .string c.name, .int .i64 c.n, .int .i64 c.len, .int .u8 (c.x.toNat : Int), pv] := by rw [hwA]; exact heap_alloc_new _ _
  have HBA : Hid (Below w.heap.size w wA) := Lib.hid (by rw [hwA]; exact (Below.refl _ _).alloc (Nat.le_refl _) _)
  have hsz : wA.heap.size = w.heap.size + 1 := by rw [hwA]; simp
  have HBlk := Lib.hid hblk
  have a0 : wA.cell? ⟨w.heap.size, 0, none⟩ = some (.int .i64 1) := by rw [hblk.cell]; rfl
  have a1 : wA.cell? ⟨w.heap.size, 1, none⟩ = some (.string c.name) := by rw [hblk.cell]; rfl
  have a2 : wA.cell? ⟨w.heap.size, 2, none⟩ = some (.int .i64 c.n) := by rw [hblk.cell]; rfl
  have a3 : wA.cell? ⟨w.heap.size, 3, none⟩ = some (.int .i64 c.len) := by rw [hblk.cell]; rfl
  have a4 : wA.cell? ⟨w.heap.size, 4, none⟩ = some (.int .u8 (c.x.toNat : Int)) := by rw [hblk.cell]; rfl
  have a5 : wA.cell? ⟨w.heap.size, 5, none⟩ = some pv := by rw [hblk.cell]; rfl
  have hlt : w.heap.size < wA.heap.size := by omega
  generalize c.x.toNat = xx at *
  go_enter Try.func10, Try.ntmps10
  go_upto_region 4 with (first
    | (go_at_call 28; refine (lent_any bs A7 w1.heap.size c7 w1 (by omega) hr7).mono ?_; rintro e w2 ⟨v2, rfl, hl2, hb2⟩)
    | (go_at_call 22; rw [← hwA]; refine (HBy.out wA).mono ?_; rintro e w1 ⟨v1, rfl, ho1, hb1⟩; obtain ⟨A7, c7, rfl, hc7, hm7, hr7, hA7⟩ := own_form ho1))
  have HB2 := Lib.hid (HBA.out.trans ((hb1.mono (by omega)).trans (hb2.mono (by have := hb1.size; omega))))
  obtain ⟨g, cap, hvg, hbg, hgw, hcap, hcapm, -⟩ := hl2.cells
  subst hvg
  have hs1 := hb1.size
  have hs2 := hb2.size
  have hrd := hl2.reads
  obtain ⟨g', cap', hvv, hrd⟩ := hrd
  obtain ⟨rfl, rfl⟩ : g = g' ∧ cap = cap' := by simpa using hvv
  have HRd := Lib.hid hrd
  have HL2 := Lib.hid hl2
  have hblk2 := (HBlk.out.below hb1 hlt).below hb2 (by omega)
  have HBlk2 := Lib.hid hblk2
  have b1 : w2.cell? ⟨w.heap.size, 1, none⟩ = some (.string c.name) := by rw [hblk2.cell]; rfl
  have b2 : w2.cell? ⟨w.heap.size, 2, none⟩ = some (.int .i64 c.n) := by rw [hblk2.cell]; rfl
  have hgF : ∀ ad : Addr, (some ⟨g, 0, none⟩ : Option Addr) = some ad → ¬ Fd ad.block := fun ad e hf => by
    injection e with e
    subst e
    have := H.out.ld _ hf
    simp at this
    omega
  have HDw := Lib.hid (HD.out w2 (some ⟨g, 0, none⟩) cap HB2.out hrd hgF (by omega))
  unfold maxLen at hcapm
  clear hwA hblk a0 a1 a2 a3 a4 a5 ho1 hb1 hb2 hl2 hrd hvv hr7 hA7 hgF hblk2
  go_upto_region 5 with (go_at_call 15; refine HDw.out.mono ?_; rintro e w3 ⟨rfl, hd3, ho3⟩)
  have hblk3 := HBlk2.out.only ho3 (fun hf => by have := H.out.ld _ hf; omega)
  have HBlk3 := Lib.hid hblk3
  have a0 : w3.cell? ⟨w.heap.size, 0, none⟩ = some (.int .i64 1) := by rw [hblk3.cell]; rfl
  have a1 : w3.cell? ⟨w.heap.size, 1, none⟩ = some (.string c.name) := by rw [hblk3.cell]; rfl
  have a2 : w3.cell? ⟨w.heap.size, 2, none⟩ = some (.int .i64 c.n) := by rw [hblk3.cell]; rfl
  have a3 : w3.cell? ⟨w.heap.size, 3, none⟩ = some (.int .i64 c.len) := by rw [hblk3.cell]; rfl
  have a4 : w3.cell? ⟨w.heap.size, 4, none⟩ = some (.int .u8 (xx : Int)) := by rw [hblk3.cell]; rfl
  have a5 : w3.cell? ⟨w.heap.size, 5, none⟩ = some pv := by rw [hblk3.cell]; rfl
  have hl3 : LentAt w3 w1.heap.size (.slice (some ⟨g, 0, none⟩) bs.length cap) bs := HL2.out.only ho3 fun k hk hf => by have := H.out.ld k hf; omega
  have HL3 := Lib.hid hl3
  have HD3 := Lib.hid hd3
  have HO3 := Lib.hid ho3
  have hs3 := ho3.size
  clear hblk3 hl3 hd3 ho3 b1 b2 HDw
  go_upto_region 6 with (first
    | (go_at_call 29; refine (kept_any bs _ A8 w4.heap.size c8 w1.heap.size w4 (by omega) (HL3.out.below hb4) hr8).mono ?_; rintro e w5 ⟨rfl, hb5⟩)
    | (go_at_call 22; refine (HBy.out w3).mono ?_; rintro e w4 ⟨v4, rfl, ho4, hb4⟩; obtain ⟨A8, c8, rfl, hc8, hm8, hr8, hA8⟩ := own_form ho4))
  have hs4 := hb4.size
  have hb35 : Below w3.heap.size w3 w5 := hb4.trans (hb5.mono hs4)
  have HB35 := Lib.hid hb35
  have hs5 := hb35.size
  have HL5 := Lib.hid (HL3.out.below hb35)
  have HBlk5 := Lib.hid (HBlk3.out.below hb35 (by omega))
  clear ho4 hb4 hr8 hA8 hb5 hb35 a0 a1 a2 a3 a4 a5
  go_wp2_with fail
  have hcur : ∃ cur : Array Value, cur.size = cap ∧ Blk w5 g 5 cur := by
    obtain ⟨g', cap', cur, hv, h1, hh, h2, h3, h4, h5⟩ := HL5.out
    obtain ⟨rfl, rfl⟩ : g = g' ∧ cap = cap' := by simpa using hv
    exact ⟨cur, h4, hh⟩
  obtain ⟨cur0, hcs0, hcb0⟩ := hcur
  have HCb := Lib.hid hcb0
  clear hcb0
  go_loopw [10] (fun i wr => ∃ (k : Nat) (cur : Array Value), k ≤ bs.length ∧ i = .int .i64 k ∧ cur.size = cap ∧ Hid (Blk wr g 5 cur) ∧ Hid (Only (fun q => q = g) w5 wr)) (fun i _ => bs.length - (intOf i).toNat)
  case atStart => exact ⟨0, cur0, Nat.zero_le _, rfl, hcs0, HCb.out, Only.refl _ _⟩
  case round =>
    obtain ⟨k, cur, hk', rfl, hcs, HBc, HOn⟩ := hrel
    by_cases hltk : k < bs.length
    · have hcell : wr.cell? ⟨g, k, none⟩ = some (cur[k]'(by omega)) := by rw [HBc.out.cell, Array.getElem?_eq_getElem]
      have hfr := HBc.out.frozen k
      have hi : (k : Int) < (bs.length : Int) := by omega
      have HST := Lib.hid (HBc.out.set_ k (.int .u8 99))
      have HON := Lib.hid (HOn.out.setCell (p := ⟨g, k, none⟩) (.inl rfl) (.int .u8 99))
      have hcs' : (cur.setIfInBounds k (.int .u8 99)).size = cap := by simpa using hcs
      generalize cur.setIfInBounds k (.int .u8 99) = cur' at *
      generalize (cur[k]'(by omega)) = x at *
      go_wp2
      go_roundw
      case rel => exact ⟨k + 1, cur', by omega, by go_num, hcs', HST, HON⟩
      case measure => simp [intOf]; omega
    · obtain rfl : k = bs.length := by omega
      have hblk3 := HBlk5.out.only HOn.out (fun e => by omega)
      have a0 : wr.cell? ⟨w.heap.size, 0, none⟩ = some (.int .i64 1) := by rw [hblk3.cell]; rfl
      have a1 : wr.cell? ⟨w.heap.size, 1, none⟩ = some (.string c.name) := by rw [hblk3.cell]; rfl
      have a2 : wr.cell? ⟨w.heap.size, 2, none⟩ = some (.int .i64 c.n) := by rw [hblk3.cell]; rfl
      have a3 : wr.cell? ⟨w.heap.size, 3, none⟩ = some (.int .i64 c.len) := by rw [hblk3.cell]; rfl
      have a4 : wr.cell? ⟨w.heap.size, 4, none⟩ = some (.int .u8 (xx : Int)) := by rw [hblk3.cell]; rfl
      have a5 : wr.cell? ⟨w.heap.size, 5, none⟩ = some pv := by rw [hblk3.cell]; rfl
      have hlt3 := hblk3.lt
      have HOm : Hid (Only (fun q => q = g) w3 wr) := Lib.hid ((Only.of_below HB35.out : Only (fun q => q = g) w3 w5).trans HOn.out fun _ _ h => h)
      have g1 : ∀ k, Gr Fd w2 w3 k → ¬ k = g := fun k hk e => by
        subst e
        rcases hk with h1 | h1
        · have := H.out.ld k h1
          omega
        · omega
      have g2 : ∀ k, Fw k → ¬ k = g := fun k hk e => by
        have := H.out.lw k hk
        omega
      have HT3 := Lib.hid (((H.out.quiet HB2.out).dOp HD3.out HO3.out).only HOm.out g1 g2)
      have HG := Lib.hid (And.intro g1 g2)
      have hgw0 : w.heap.size ≤ g := by omega
      clear g1 g2 hblk3 hltk hcs0
      go_upto_region 10 with fail
      go_region_held3 (fun w' => w'.cell? ⟨w.heap.size, 0, none⟩ = some (.int .i64 1) ∧ w'.cell? ⟨w.heap.size, 1, none⟩ = some (.string c.name) ∧ w'.cell? ⟨w.heap.size, 2, none⟩ = some (.int .i64 c.n) ∧ w'.cell? ⟨w.heap.size, 3, none⟩ = some (.int .i64 c.len) ∧ w'.cell? ⟨w.heap.size, 4, none⟩ = some (.int .u8 (xx : Int)) ∧ w'.cell? ⟨w.heap.size, 5, none⟩ = some pv)
        (first
          | exact ⟨a0, a1, a2, a3, a4, a5⟩
          | exact ⟨hcc 0 a0, hcc 1 a1, hcc 2 a2, hcc 3 a3, hcc 4 a4, hcc 5 a5⟩
          | exact ⟨hbb 0 a0, hbb 1 a1, hbb 2 a2, hbb 3 a3, hbb 4 a4, hbb 5 a5⟩
          | go_keep)
        (first
          | (go_at_call 30; refine (HW.out w7 Fw A6 c6 (HT3.out.quiet b34).r hr6 hs6 hc6).mono ?_; rintro e w8 ⟨rfl, hr8, ho8⟩; have hcc : ∀ j {u : Value}, wr.cell? ⟨w.heap.size, j, none⟩ = some u → w8.cell? ⟨w.heap.size, j, none⟩ = some u := (fun j u hu => (ho8.cell (p := ⟨w.heap.size, j, none⟩) (Nat.lt_of_lt_of_le hlt3 b34.size) (fun hf => by have := H.out.lw _ hf; simp at this)).trans (hbb j hu)); have HFin := Lib.hid (does_mid H.out HB2.out HD3.out HO3.out HOm.out HG.out.1 HG.out.2 (fun k e => by omega) b34 hr8 ho8 (Below.refl _ _)))
          | (go_at_call 22; refine (HBy.out wr.drew).mono ?_; rintro e w7 ⟨v6, rfl, ho6, hb6⟩; obtain ⟨A6, c6, rfl, hc6, hm6, hr6, hA6⟩ := own_form ho6; have b34 : Below wr.heap.size wr w7 := below_of_drew hb6; have hs6 : ∀ ad, A6 = some ad → ¬ Fw ad.block := (fun ad e hf => by have := HT3.out.lw _ hf; have := (hA6 ad e).1; simp at this; omega); have hbb : ∀ j {u : Value}, wr.cell? ⟨w.heap.size, j, none⟩ = some u → w7.cell? ⟨w.heap.size, j, none⟩ = some u := (fun j u hu => (b34.cell (p := ⟨w.heap.size, j, none⟩) hlt3).trans hu))
          | fail)
      all_goals
        clear hr8 ho8
        go_wp2_with fail
        go_ret
        unfold DoesAt
        rw [HT.out.1, HT.out.2.1, HT.out.2.2]
        exact ⟨rfl, HFin.out⟩
end Go.Proofs.Ytoihkanneiknkaa
