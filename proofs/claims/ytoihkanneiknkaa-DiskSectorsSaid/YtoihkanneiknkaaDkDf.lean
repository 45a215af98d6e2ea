/- Contract of octavolaw04.does, last part: any other kind; all kinds. Contract of octavolaw04.awake. The walk of octavolaw04.DiskPlays. Conditions: those that each theorem names. -/
import Derived.Test.YtoihkanneiknkaaDkDe
namespace Go.Proofs.Ytoihkanneiknkaa
open Go.RowKit
attribute [local go_sem ↓] Go.wp_at_zero Go.wp_at_succ

theorem read_none (s : RD) (nm : ByteArray) : (s.read nm 0 0).1 = [] := by
  unfold RD.read
  split
  · rfl
  · split
    · rfl
    · split
      · rfl
      · split
        · rfl
        · simp

set_option maxRecDepth 100000 in
set_option maxHeartbeats 4000000 in
theorem does_else (c : Cl) (pv : Value) (md mw : Nat) (sd sw : RD) (Fd Fw : Nat → Prop) (pd pw : Nat) (w : World) (h : Two w Fd Fw pd pw sd sw) (hod : Well sd md) (how : Well sw mw) (hc : c.Fit) (hk : c.kind ≠ 1 ∧ c.kind ≠ 2 ∧ c.kind ≠ 3 ∧ c.kind ≠ 4 ∧ c.kind ≠ 5 ∧ c.kind ≠ 6 ∧ c.kind ≠ 7) :
    Calls Try.prog 10 #[.pointer (some ⟨pd, 0, none⟩), .pointer (some ⟨pw, 0, none⟩), c.enc pv] w fun e w' => DoesAt Fd Fw pd pw sd sw c w e w' := by
  have H := Lib.hid h
  have HD := Lib.hid (fun W (hb : Below w.heap.size w W) => disk_size c.name (h.quiet hb).d hod hc.name)
  have HW := Lib.hid (fun W (hb : Below w.heap.size w W) => ref_read c.name 0 0 (h.quiet hb).r how.ok how.small hc.name (by omega) (by omega))
  obtain ⟨k1, k2, k3, k4, k5, k6, k7⟩ := hk
  have hB : doesB sd sw c = (decide (0 ≤ sd.size c.name) == decide ((sw.read c.name 0 0).2 = 0)) := by
    unfold doesB
    rw [if_neg k1, if_neg k2, if_neg k3, if_neg k4, if_neg k5, if_neg k6, if_neg k7, read_none]
    simp
  have hd1 : sd.step c = sd := by unfold RD.step; rw [if_neg k1, if_neg k2, if_neg k3, if_neg k4, if_neg k5, if_neg k6, if_neg k7]
  have hw1 : sw.step c = sw := by unfold RD.step; rw [if_neg k1, if_neg k2, if_neg k3, if_neg k4, if_neg k5, if_neg k6, if_neg k7]
  have HT := Lib.hid (And.intro hB (And.intro hd1 hw1))
  have hn := read_none sw c.name
  have q1 : (c.kind == 1) = false := by simpa using k1
  have q2 : (c.kind == 2) = false := by simpa using k2
  have q3 : (c.kind == 3) = false := by simpa using k3
  have q4 : (c.kind == 4) = false := by simpa using k4
  have q5 : (c.kind == 5) = false := by simpa using k5
  have q6 : (c.kind == 6) = false := by simpa using k6
  have q7 : (c.kind == 7) = false := by simpa using k7
  unfold Cl.enc
  clear h hB hd1 hw1 k1 k2 k3 k4 k5 k6 k7
  unfold ReadAt at HW
  generalize (sw.read c.name 0 0).1 = l at *
  subst hn
  generalize (sw.read c.name 0 0).2 = n at *
  generalize sd.size c.name = z at *
  have hnn : ((n : Int) == 0) = decide (n = 0) := by rw [Bool.eq_iff_iff, beq_iff_eq, decide_eq_true_iff]; omega
  generalize c.kind = kk at *
  obtain ⟨wA, hwA⟩ : ∃ wA : World, wA = w.alloc (.cells #[.int .i64 kk, .string c.name, .int .i64 c.n, .int .i64 c.len, .int .u8 (c.x.toNat : Int), pv] 36) := ⟨_, rfl⟩
  have hblk : Blk wA w.heap.size 36 #[.int .i64 kk, .string c.name, .int .i64 c.n, .int .i64 c.len, .int .u8 (c.x.toNat : Int), pv] := by rw [hwA]; exact heap_alloc_new _ _
  have HBA : Hid (Below w.heap.size w wA) := Lib.hid (by rw [hwA]; exact (Below.refl _ _).alloc (Nat.le_refl _) _)
  have hsz : wA.heap.size = w.heap.size + 1 := by rw [hwA]; simp
  have a1 : wA.cell? ⟨w.heap.size, 1, none⟩ = some (.string c.name) := by rw [hblk.cell]; rfl
  have hlt : w.heap.size < wA.heap.size := by omega
  go_enter Try.func10, Try.ntmps10
  go_upto_region 39 with (go_at_call 33; rw [← hwA]; refine (HW.out wA HBA.out).mono ?_; rintro e w1 ⟨v1, rfl, ho1, hb1⟩; obtain ⟨A7, c7, rfl⟩ := own_slice ho1; have b1 := (hb1.cell (p := ⟨w.heap.size, 1, none⟩) hlt).trans a1; have hl1 : w.heap.size < w1.heap.size := Nat.lt_of_lt_of_le hlt hb1.size)
  have BA1 := HBA.out.trans (hb1.mono (by omega))
  have HB1 := Lib.hid BA1
  clear ho1 hb1 BA1 hwA hblk a1
  go_wp2_with (go_at_call 19; refine (HD.out w1 HB1.out).mono ?_; rintro e w2 ⟨rfl, hb2⟩)
  have hBw := HB1.out.trans (hb2.mono HB1.out.size)
  have HFin := Lib.hid (And.intro (H.out.quiet hBw) (Only.of_below hBw : Only (fun k => Fd k ∨ Fw k) w w2))
  clear hBw hb2
  go_ret
  unfold DoesAt
  rw [HT.out.1, HT.out.2.1, HT.out.2.2]
  exact ⟨rfl, Fd, Fw, HFin.out.1, fun _ h => .inl h, fun _ h => .inl h, HFin.out.2⟩

theorem does_any (c : Cl) (Ap : Option Addr) (cp : Nat) (md mw : Nat) (sd sw : RD) (Fd Fw : Nat → Prop) (pd pw : Nat) (w : World) (h : Two w Fd Fw pd pw sd sw) (hod : Well sd md) (how : Well sw mw) (hc : c.Fit)
    (hpk : c.picks.length ≤ 9223372036854775807) (hpi : ∀ x ∈ c.picks, -9223372036854775808 ≤ x ∧ x ≤ 9223372036854775807) (hr : Reads w w.heap.size 1 Ap c.picks.length (pv_ c.picks)) (hs : 0 < c.picks.length → ∀ ad, Ap = some ad → ¬ Fd ad.block ∧ ¬ Fw ad.block) :
    Calls Try.prog 10 #[.pointer (some ⟨pd, 0, none⟩), .pointer (some ⟨pw, 0, none⟩), c.enc (.slice Ap c.picks.length cp)] w fun e w' => DoesAt Fd Fw pd pw sd sw c w e w' := by
  by_cases k1 : c.kind = 1
  · exact does_write c _ md mw sd sw Fd Fw pd pw w h hod how hc k1
  by_cases k2 : c.kind = 2
  · exact does_cut c _ md mw sd sw Fd Fw pd pw w h hod how hc k2
  by_cases k3 : c.kind = 3
  · exact does_sync c _ md mw sd sw Fd Fw pd pw w h hod how hc k3
  by_cases k4 : c.kind = 4
  · exact does_read c _ md mw sd sw Fd Fw pd pw w h hod how hc k4
  by_cases k5 : c.kind = 5
  · exact does_load c _ md mw sd sw Fd Fw pd pw w h hod how hc k5
  by_cases k6 : c.kind = 6
  · exact does_arm c _ md mw sd sw Fd Fw pd pw w h hod how hc k6
  by_cases k7 : c.kind = 7
  · exact does_crash c Ap cp md mw sd sw Fd Fw pd pw w h hod how k7 hpk hpi hr hs
  exact does_else c _ md mw sd sw Fd Fw pd pw w h hod how hc ⟨k1, k2, k3, k4, k5, k6, k7⟩
theorem well_step {s : RD} {m : Nat} (h : Well s m) (c : Cl) (hc : c.Fit) (hm : m + 400 ≤ 1000000) : Well (s.step c) (m + 400) := by
  have hb := c.bytes_length
  unfold RD.step
  split
  · exact ⟨h.ok.write _ _ _ hb, h.nice.write _ _ _, hm⟩
  split
  · exact ⟨h.ok.cut _ _, h.nice.cut _ _, hm⟩
  split
  · exact ⟨h.ok.sync _, h.nice.sync _, hm⟩
  split
  · exact ⟨h.ok.more (by omega), h.nice, hm⟩
  split
  · exact ⟨h.ok.load _ _ (by omega), h.nice.load _ _, hm⟩
  split
  · exact ⟨(h.ok.arm _ hc.n.2).more (by omega), h.nice.arm _, hm⟩
  split
  · exact ⟨(h.ok.crash _).more (by omega), h.nice.crash _, hm⟩
  · exact ⟨h.ok.more (by omega), h.nice, hm⟩
theorem does_same (s : RD) (c : Cl) (h : c.kind = 1 ∨ c.kind = 2 ∨ c.kind = 3 ∨ c.kind = 4 ∨ c.kind = 5 ∨ c.kind = 6 ∨ c.kind = 7) : doesB s s c = true := by
  unfold doesB
  rcases h with h | h | h | h | h | h | h <;> simp [h]
theorem find_named {s : RD} (h : s.Nice) {nm : ByteArray} {k : Nat} (hf : s.find nm = some k) : named nm = true := by
  obtain ⟨h1, h2, _⟩ := pos_some.1 hf
  have hk : k < s.files.length := by simpa [RD.names] using h1
  have h3 := h.named _ (List.getElem_mem hk)
  have e : s.names[k] = s.files[k].name := by simp [RD.names]
  rw [← h2, e]
  exact h3
theorem does_same' (s : RD) (hn : s.Nice) (c : Cl) : doesB s s c = true := by
  by_cases h : c.kind = 1 ∨ c.kind = 2 ∨ c.kind = 3 ∨ c.kind = 4 ∨ c.kind = 5 ∨ c.kind = 6 ∨ c.kind = 7
  · exact does_same s c h
  · simp only [not_or] at h
    obtain ⟨k1, k2, k3, k4, k5, k6, k7⟩ := h
    unfold doesB
    rw [if_neg k1, if_neg k2, if_neg k3, if_neg k4, if_neg k5, if_neg k6, if_neg k7, read_none]
    simp only [decide_true, Bool.true_and, beq_iff_eq, decide_eq_decide]
    unfold RD.size RD.read
    rcases hf : s.find c.name with _ | k
    · rw [if_pos (.inr rfl)]
      by_cases q1 : named c.name = false
      · rw [if_pos q1]; simp
      · rw [if_neg q1]
        by_cases q2 : s.down = true
        · rw [if_pos q2]; simp
        · rw [if_neg q2]; simp
    · have hnm := find_named hn hf
      rw [if_neg (show ¬ named c.name = false by rw [hnm]; simp)]
      by_cases q2 : s.down = true
      · rw [if_pos (.inl q2), if_pos q2]; simp
      · rw [if_neg (by simp [q2]), if_neg q2]
        simp only
        rw [if_neg (by omega)]
        simp
end Go.Proofs.Ytoihkanneiknkaa

namespace Go.Proofs.Ytoihkanneiknkaa
open Go.RowKit

def nmA : ByteArray := ⟨#[97]⟩
def sA1 : RD := ((RD.new 1000).write nmA 0 (List.replicate 100 7)).1
def sA2 : RD := sA1.crash [0, 1]
theorem awake_write : ((RD.new 1000).write nmA 0 (List.replicate 100 7)).2 = 0 := by decide +kernel
theorem awake_read : sA2.read nmA 60 10 = ([0, 0, 0, 0, 7, 7, 7, 7, 7, 7], 0) := by decide +kernel
theorem awake_size : sA2.size nmA = 100 := by decide +kernel
theorem well_new : Well (RD.new 1000) 0 := ⟨new_ok 1000 (by omega), nice_new _ _ _ _ _ _, by omega⟩
theorem well_A1 : Well sA1 400 := ⟨(new_ok 1000 (by omega)).write _ _ _ (by simp), (nice_new _ _ _ _ _ _).write _ _ _, by omega⟩
theorem well_A2 : Well sA2 400 := ⟨well_A1.ok.crash _, well_A1.nice.crash _, by omega⟩

set_option maxRecDepth 100000 in
set_option maxHeartbeats 4000000 in
theorem awake_any (w : World) : Calls Try.prog 9 #[] w fun e w' => e = .returned (.bool true) ∧ Below w.heap.size w w' := by
  have HNew := Lib.hid (disk_new 1000 w (by omega))
  have HFull := Lib.hid (fun W => full_any 100 7 W (by omega))
  have h7 : (((7 : UInt8).toNat : Nat) : Int) = 7 := rfl
  rw [h7] at HFull
  clear h7
  have h100 : ((100 : Nat) : Int) = 100 := rfl
  rw [h100] at HFull
  clear h100
  go_enter Try.func9, Try.ntmps9
  go_upto_region 2 with (go_at_call 8; refine HNew.out.mono ?_; rintro e w1 (⟨hbad, -, -⟩ | ⟨-, p, F, rfl, hd1, hF1, hb1⟩); · omega)
  have HF1 := Lib.hid hF1
  have HB1 := Lib.hid hb1
  have hs1 := hb1.size
  have HWr : Hid (∀ W A k, Below w1.heap.size w1 W → Reads W W.heap.size 1 A 100 (bv (List.replicate 100 7)) → (∀ ad, A = some ad → ¬ F ad.block) → 100 ≤ k → Calls Try.prog 15 #[.pointer (some ⟨p, 0, none⟩), .string ⟨#[97]⟩, .int .i64 0, .slice A 100 k] W fun e w' => DkOp F p sA1 0 W e w') := Lib.hid (fun W A k hb hr hs hk => by
    have h1 := disk_write nmA 0 (List.replicate 100 7) A k (hd1.only (Only.of_below hb : Only (fun _ => False) w1 W) fun _ _ => id) well_new (by decide) (by omega) (by simp) hr hs (by simpa using hk)
    rw [awake_write] at h1
    exact h1)
  clear hd1 hb1 hF1
  go_upto_region 4 with (first
    | (go_at_call 15; refine (HWr.out w2 A7 c7 hb2 hr7 (fun ad e hf => by have := (HF1.out _ hf).2; have := (hA7 ad e).1; omega) hc7).mono ?_; rintro e w3 ⟨rfl, hd3, ho3⟩)
    | (go_at_call 13; refine (HFull.out w1).mono ?_; rintro e w2 ⟨v2, rfl, ho2, hb2⟩; obtain ⟨A7, c7, rfl, hc7, hm7, hr7, hA7⟩ := own_form ho2))
  have hs2 := hb2.size
  have hs3 := ho3.size
  have HB3 : Hid (Below w.heap.size w w3) := Lib.hid ((HB1.out.trans (hb2.mono (by omega))).trans ((ho3.below (fun k hk => (HF1.out k hk).1) (by omega)).mono (by omega)))
  have hF3 : ∀ k, Gr F w2 w3 k → w.heap.size ≤ k ∧ k < w3.heap.size := fun k hk => hk.elim (fun h => ⟨(HF1.out k h).1, by have := (HF1.out k h).2; omega⟩) fun h => ⟨by omega, h.2⟩
  have HF3 := Lib.hid hF3
  have HCr : Hid (Calls Try.prog 17 #[.pointer (some ⟨p, 0, none⟩), .slice (some ⟨w3.heap.size, 0, none⟩) 2 2] (w3.alloc (.cells #[.int .i64 0, .int .i64 1] 3)) fun e w' => e = .returned (.tuple #[]) ∧ DiskAt w' (Gr (Gr F w2 w3) (w3.alloc (.cells #[.int .i64 0, .int .i64 1] 3)) w') p sA2 ∧ Only (Gr F w2 w3) (w3.alloc (.cells #[.int .i64 0, .int .i64 1] 3)) w') := Lib.hid (by
    have h1 := reads_newN w3 3 1 [.int .i64 0, .int .i64 1] 2 rfl
    exact disk_crash [0, 1] (some ⟨w3.heap.size, 0, none⟩) 2 (hd3.only ((Only.refl (fun _ => False) w3).alloc _) fun _ _ => id) well_A1 (by decide) (by intro x hx; simp at hx; omega) (h1.more (by simp)) fun _ ad e hk => by cases e; exact Nat.lt_irrefl _ (HF3.out _ hk).2)
  clear ho2 hb2 hr7 hA7 hd3 ho3 hF3
  go_upto_region 5 with (go_at_call 17; refine HCr.out.mono ?_; rintro e w4 ⟨rfl, hd4, ho4⟩)
  have hs4 : w3.heap.size + 1 ≤ w4.heap.size := by have := ho4.size; simp at this; omega
  have HB4 : Hid (Below w.heap.size w w4) := Lib.hid (by
    have b1 : Below w.heap.size w (w3.alloc (.cells #[.int .i64 0, .int .i64 1] 3)) := HB3.out.alloc (by omega) _
    exact b1.trans ((ho4.below (fun k hk => (HF3.out k hk).1) (by simp; omega))))
  have HRe : Hid (Calls Try.prog 18 #[.pointer (some ⟨p, 0, none⟩), .string ⟨#[97]⟩, .int .i64 60, .int .i64 10] w4 fun e w' => ReadAt [0, 0, 0, 0, 7, 7, 7, 7, 7, 7] 0 w4 e w') := Lib.hid (by
    have h1 := disk_read nmA 60 10 hd4 well_A2 (by decide) (by omega) (by omega)
    rw [awake_read] at h1
    exact h1)
  have HSz : Hid (∀ W, Below w4.heap.size w4 W → Calls Try.prog 19 #[.pointer (some ⟨p, 0, none⟩), .string ⟨#[97]⟩] W fun e w' => e = .returned (.int .i64 100) ∧ Below W.heap.size W w') := Lib.hid (fun W hb => by
    have h1 := disk_size nmA (hd4.only (Only.of_below hb : Only (fun _ => False) w4 W) fun _ _ => id) well_A2 (by decide)
    rw [awake_size] at h1
    exact h1)
  clear hd4 ho4 HCr HWr HFull HNew
  go_upto_region 6 with (go_at_call 18; refine HRe.out.mono ?_; rintro e w5 ⟨v5, rfl, ho5, hb5⟩; obtain ⟨A5, c5, rfl, hc5, hm5, hr5, hA5⟩ := own_form ho5)
  have HB5 := Lib.hid (HB4.out.trans (hb5.mono HB4.out.size))
  have HB45 := Lib.hid hb5
  have HR5 := Lib.hid hr5
  have hs5 := HB5.out.size
  clear ho5 hb5 hr5 hA5
  go_wp2_with (first
    | (go_at_call 20; refine (same_any [0, 0, 0, 0, 7, 7, 7, 7, 7, 7] [0, 0, 0, 0, 7, 7, 7, 7, 7, 7] A5 (some ⟨w6.heap.size, 0, none⟩) w5.heap.size (w6.heap.size + 1) c5 10 _ (by simp [maxLen]) (by simp [maxLen]) ((HR5.out.below hb6).alloc hb6.size _) (reads_newN w6 5 1 (bv [0, 0, 0, 0, 7, 7, 7, 7, 7, 7]) 10 rfl)).mono ?_; rintro e w7 ⟨rfl, hb7⟩)
    | (go_at_call 19; refine (HSz.out w5 HB45.out).mono ?_; rintro e w6 ⟨rfl, hb6⟩))
  have hb6' := hb6.size
  have HFin := Lib.hid (((HB5.out.trans (hb6.mono HB5.out.size)).alloc (by omega) _).trans (hb7.mono (by simp; omega)))
  clear hb6 hb7
  go_ret
  exact ⟨rfl, HFin.out⟩
end Go.Proofs.Ytoihkanneiknkaa

namespace Go.Proofs.Ytoihkanneiknkaa
open Go.RowKit
attribute [local go_sem ↓] Go.wp_at_zero Go.wp_at_succ

/-- A call in memory. -/
structure CallIn (w : World) (A : Option Addr) (k : Nat) (x : Cl × Option Addr × Nat) : Prop where
  at_ : ∃ b o, A = some ⟨b, o, none⟩ ∧ b < w.heap.size ∧ w.cell? ⟨b, o + k * 6, none⟩ = some (.int .i64 x.1.kind) ∧ w.cell? ⟨b, o + k * 6 + 1, none⟩ = some (.string x.1.name) ∧ w.cell? ⟨b, o + k * 6 + 2, none⟩ = some (.int .i64 x.1.n) ∧
    w.cell? ⟨b, o + k * 6 + 3, none⟩ = some (.int .i64 x.1.len) ∧ w.cell? ⟨b, o + k * 6 + 4, none⟩ = some (.int .u8 (x.1.x.toNat : Int)) ∧ w.cell? ⟨b, o + k * 6 + 5, none⟩ = some (.slice x.2.1 x.1.picks.length x.2.2)
  fit : x.1.Fit
  len : x.1.picks.length ≤ 9223372036854775807
  ints : ∀ y ∈ x.1.picks, -9223372036854775808 ≤ y ∧ y ≤ 9223372036854775807
  reads : Reads w w.heap.size 1 x.2.1 x.1.picks.length (pv_ x.1.picks)
theorem CallIn.old {w : World} {A : Option Addr} {k : Nat} {x : Cl × Option Addr × Nat} (h : CallIn w A k x) (h0 : 0 < x.1.picks.length) : ∀ ad, x.2.1 = some ad → ad.block < w.heap.size := fun ad e => by
  obtain ⟨b, e2, h2, _⟩ := h.reads.2 h0
  rw [e] at e2
  cases e2
  exact h2

set_option maxRecDepth 100000 in
set_option maxHeartbeats 4000000 in
theorem plays_any (room : Int) (l : List (Cl × Option Addr × Nat)) (A : Option Addr) (c : Nat) (w : World) (hroom : -9223372036854775808 ≤ room ∧ room ≤ 9223372036854775807) (hc : ∀ k (h : k < l.length), CallIn w A k l[k]) :
    Calls Try.prog 3 #[.int .i64 room, .slice A l.length c] w fun e w' => e = .returned (.bool true) ∧ Below w.heap.size w w' := by
  have HNew := Lib.hid (disk_new room w hroom)
  have HAw := Lib.hid awake_any
  have HC := Lib.hid hc
  obtain ⟨hr1, hr2⟩ := hroom
  clear hc
  go_enter Try.func3, Try.ntmps3
  go_upto_region 2 with (go_at_call 8; refine HNew.out.mono ?_; rintro e w1 h1; obtain ⟨hbad, rfl, hb1⟩ | ⟨⟨hg1, hg2⟩, p, F, rfl, hd1, hF1, hb1⟩ := h1)
  · have HB1 := Lib.hid hb1
    clear hb1
    rcases hbad with hbad | hbad
    all_goals
      go_wp2_with (go_at_call 9; refine (HAw.out w1).mono ?_; rintro e w2 ⟨rfl, hb2⟩)
      go_ret
      exact ⟨rfl, HB1.out.trans (hb2.mono HB1.out.size)⟩
  · have HD1 := Lib.hid hd1
    have HF1 := Lib.hid hF1
    have HB1 := Lib.hid hb1
    clear hd1 hF1 hb1
    go_upto_region 9 with (go_at_call 9; refine (HAw.out w1).mono ?_; rintro e w2 ⟨rfl, hb2⟩)
    have hs1 := HB1.out.size
    have hs2 := hb2.size
    have hTwo : Two (w2.alloc (.cells #[.int .i64 room, .int .i64 0, .int .i64 0, .bool false, .bool false, .slice none 0 0, .slice none 0 0] 32)) F (fun k => k = w2.heap.size) p w2.heap.size (RD.new room) (RD.new room) :=
      ⟨HD1.out.only ((Only.of_below hb2 : Only (fun _ => False) w1 w2).alloc _) fun _ _ => id, ref_new w2 room, fun k hk e => by have := (HF1.out k hk).2; omega, fun k hk => by have := (HF1.out k hk).2; simp; omega, fun k hk => by simp; omega⟩
    have hB0 : Below w.heap.size w (w2.alloc (.cells #[.int .i64 room, .int .i64 0, .int .i64 0, .bool false, .bool false, .slice none 0 0, .slice none 0 0] 32)) := (HB1.out.trans (hb2.mono hs1)).alloc (by omega) _
    have hW0 : Well (RD.new room) 0 := ⟨new_ok room ⟨by omega, by omega⟩, nice_new _ _ _ _ _ _, by omega⟩
    have HTwo := Lib.hid hTwo
    have HB0 := Lib.hid hB0
    have HW0 := Lib.hid hW0
    have HFn : Hid ((∀ q, F q → w.heap.size ≤ q) ∧ w.heap.size ≤ w2.heap.size) := Lib.hid ⟨fun q hq => (HF1.out q hq).1, by omega⟩
    generalize hpw : w2.heap.size = pw at *
    clear hTwo hB0 hW0 hb2
    go_wp2_with fail
    go_loopw [8] (fun i wr => ∃ (k : Nat) (s : RD) (Fd Fw : Nat → Prop), k ≤ l.length ∧ k ≤ 80 ∧ i = .int .i64 k ∧ Hid (Two wr Fd Fw p pw s s) ∧ Hid (Well s (400 * k)) ∧ Hid (Below w.heap.size w wr) ∧ Hid ((∀ q, Fd q → w.heap.size ≤ q) ∧ (∀ q, Fw q → w.heap.size ≤ q))) (fun i _ => l.length - (intOf i).toNat)
    case atStart => exact ⟨0, RD.new room, F, (fun k => k = pw), Nat.zero_le _, Nat.zero_le _, rfl, HTwo.out, HW0.out, HB0.out, HFn.out.1, fun q hq => by rw [hq]; exact HFn.out.2⟩
    case round =>
      obtain ⟨k, s, Fd, Fw, hk, hk80, rfl, HT, HW, HB, HF⟩ := hrel
      by_cases hlt : k < l.length
      · by_cases h80 : k < 80
        · have hi : (k : Int) < (l.length : Int) := by omega
          have hi8 : (k : Int) < 80 := by omega
          have hi0 : (0 : Int) ≤ (k : Int) := by omega
          have hold := (HC.out k hlt).old
          obtain ⟨⟨b, o, rfl, hb, x0, x1, x2, x3, x4, x5⟩, hfit, hlen, hints, hrd⟩ := HC.out k hlt
          generalize l[k] = cl at *
          obtain ⟨cl, Ap, cp⟩ := cl
          simp only at x0 x1 x2 x3 x4 x5 hfit hlen hints hrd hold
          have y0 := (HB.out.cell (p := ⟨b, o + k * 6, none⟩) hb).trans x0
          have y1 := (HB.out.cell (p := ⟨b, o + k * 6 + 1, none⟩) hb).trans x1
          have y2 := (HB.out.cell (p := ⟨b, o + k * 6 + 2, none⟩) hb).trans x2
          have y3 := (HB.out.cell (p := ⟨b, o + k * 6 + 3, none⟩) hb).trans x3
          have y4 := (HB.out.cell (p := ⟨b, o + k * 6 + 4, none⟩) hb).trans x4
          have y5 := (HB.out.cell (p := ⟨b, o + k * 6 + 5, none⟩) hb).trans x5
          have hDo := does_any cl Ap cp (400 * k) (400 * k) s s Fd Fw p pw wr HT.out HW.out HW.out hfit hlen hints ((hrd.below HB.out).more HB.out.size) fun h0 ad e => ⟨fun hf => by have := HF.out.1 _ hf; have := hold h0 ad e; omega, fun hf => by have := HF.out.2 _ hf; have := hold h0 ad e; omega⟩
          unfold DoesAt at hDo
          rw [does_same' s HW.out.nice cl] at hDo
          have HDo := Lib.hid hDo
          have HW1 := Lib.hid (well_step HW.out cl hfit (by omega))
          clear hDo x0 x1 x2 x3 x4 x5 hfit hlen hints hrd hold
          unfold Cl.enc at HDo
          generalize s.step cl = s1 at *
          go_wp2_with (first
            | (go_at_call 11; refine (alike_any s1 (400 * k + 400) Fd1 Fw1 p pw w3 ht1.d ht1.r HW1.out).mono ?_; rintro e w4 ⟨rfl, hb4⟩)
            | (go_at_call 10; refine HDo.out.mono ?_; rintro e w3 ⟨rfl, Fd1, Fw1, ht1, hf1, hf2, ho1⟩))
          go_roundw
          case rel =>
            have hs3 := HB.out.size
            have hb3 : Below w.heap.size w w3 := HB.out.trans (ho1.below (fun q hq => hq.elim (HF.out.1 q) (HF.out.2 q)) hs3)
            exact ⟨k + 1, s1, Fd1, Fw1, by omega, by omega, by go_num, ht1.quiet hb4, HW1.out, hb3.trans (hb4.mono hb3.size), fun q hq => (hf1 q hq).elim (HF.out.1 q) fun h => by omega, fun q hq => (hf2 q hq).elim (HF.out.2 q) fun h => by omega⟩
          case measure => simp [intOf]; omega
        · have hi8 : (80 : Int) ≤ (k : Int) := by omega
          have hi : (k : Int) < (l.length : Int) := by omega
          clear h80 hlt
          go_wp2_with fail
          go_ret
          exact ⟨rfl, HB.out⟩
      · obtain rfl : k = l.length := by omega
        clear hlt
        go_wp2_with fail
        go_ret
        exact ⟨rfl, HB.out⟩
end Go.Proofs.Ytoihkanneiknkaa
