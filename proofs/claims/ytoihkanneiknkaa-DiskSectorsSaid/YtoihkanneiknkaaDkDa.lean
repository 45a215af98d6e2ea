/- Contract of octavolaw04.does, first part: two disks at once; Cut, Sync, Arm. Contract of octavolaw04.does, second part: Crash. Conditions: those that each theorem names. -/
import Derived.Test.YtoihkanneiknkaaDkZ
namespace Go.Proofs.Ytoihkanneiknkaa
open Go.RowKit
attribute [local go_sem ↓] Go.wp_at_zero Go.wp_at_succ

/-- Both disks stand in memory, apart. -/
structure Two (w : World) (Fd Fw : Nat → Prop) (pd pw : Nat) (sd sw : RD) : Prop where
  d : DiskAt w Fd pd sd
  r : RefAt w Fw pw sw
  apart : ∀ k, Fd k → ¬ Fw k
  ld : ∀ k, Fd k → k < w.heap.size
  lw : ∀ k, Fw k → k < w.heap.size
section
variable {w w' : World} {Fd Fw G : Nat → Prop} {pd pw : Nat} {sd sw s' : RD}
theorem Two.only (h : Two w Fd Fw pd pw sd sw) (ho : Only G w w') (h1 : ∀ k, Fd k → ¬ G k) (h2 : ∀ k, Fw k → ¬ G k) : Two w' Fd Fw pd pw sd sw :=
  ⟨h.d.only ho h1, h.r.only ho h2, h.apart, fun k hk => Nat.lt_of_lt_of_le (h.ld k hk) ho.size, fun k hk => Nat.lt_of_lt_of_le (h.lw k hk) ho.size⟩
theorem Two.quiet (h : Two w Fd Fw pd pw sd sw) (hb : Below w.heap.size w w') : Two w' Fd Fw pd pw sd sw := h.only (Only.of_below hb : Only (fun _ => False) w w') (fun _ _ => id) fun _ _ => id
theorem gr_lt {F : Nat → Prop} (h : ∀ k, F k → k < w.heap.size) (hs : w.heap.size ≤ w'.heap.size) : ∀ k, Gr F w w' k → k < w'.heap.size := fun k hk => hk.elim (fun h1 => Nat.lt_of_lt_of_le (h k h1) hs) fun h1 => h1.2
theorem Two.dOp (h : Two w Fd Fw pd pw sd sw) (hd : DiskAt w' (Gr Fd w w') pd s') (ho : Only Fd w w') : Two w' (Gr Fd w w') Fw pd pw s' sw :=
  ⟨hd, h.r.only ho fun k hk hf => h.apart k hf hk, fun k hk hf => hk.elim (fun h1 => h.apart k h1 hf) fun h1 => by have := h.lw k hf; omega, gr_lt h.ld ho.size, fun k hk => Nat.lt_of_lt_of_le (h.lw k hk) ho.size⟩
theorem Two.rOp (h : Two w Fd Fw pd pw sd sw) (hr : RefAt w' (Gr Fw w w') pw s') (ho : Only Fw w w') : Two w' Fd (Gr Fw w w') pd pw sd s' :=
  ⟨h.d.only ho h.apart, hr, fun k hk hf => hf.elim (fun h1 => h.apart k hk h1) fun h1 => by have := h.ld k hk; omega, fun k hk => Nat.lt_of_lt_of_le (h.ld k hk) ho.size, gr_lt h.lw ho.size⟩
end
/-- A call's trace on the abstract disk. -/
def RD.step (s : RD) (c : Cl) : RD := if c.kind = 1 then (s.write c.name c.n c.bytes).1 else if c.kind = 2 then (s.cut c.name c.n).1 else if c.kind = 3 then (s.sync c.name).1 else if c.kind = 4 then s else if c.kind = 5 then (s.load c.name c.bytes).1 else
  if c.kind = 6 then (s.arm c.n).1 else if c.kind = 7 then s.crash c.picks else s
/-- Do both answer alike? -/
def doesB (sd sw : RD) (c : Cl) : Bool := if c.kind = 1 then decide ((sd.write c.name c.n c.bytes).2 = (sw.write c.name c.n c.bytes).2) else if c.kind = 2 then decide ((sd.cut c.name c.n).2 = (sw.cut c.name c.n).2) else
  if c.kind = 3 then decide ((sd.sync c.name).2 = (sw.sync c.name).2) else if c.kind = 4 then decide (sd.read c.name c.n c.len = sw.read c.name c.n c.len) else if c.kind = 5 then decide ((sd.load c.name c.bytes).2 = (sw.load c.name c.bytes).2) else
  if c.kind = 6 then decide ((sd.arm c.n).2 = (sw.arm c.n).2) else if c.kind = 7 then true else decide ((sw.read c.name 0 0).1 = []) && (decide (0 ≤ sd.size c.name) == decide ((sw.read c.name 0 0).2 = 0))
/-- What does does. -/
def DoesAt (Fd Fw : Nat → Prop) (pd pw : Nat) (sd sw : RD) (c : Cl) (w : World) (e : Ending) (w' : World) : Prop :=
  e = .returned (.bool (doesB sd sw c)) ∧ ∃ Fd' Fw', Two w' Fd' Fw' pd pw (sd.step c) (sw.step c) ∧ (∀ k, Fd' k → Fd k ∨ w.heap.size ≤ k) ∧ (∀ k, Fw' k → Fw k ∨ w.heap.size ≤ k) ∧ Only (fun k => Fd k ∨ Fw k) w w'
/-- The numbers of a call. -/
structure Cl.Fit (c : Cl) : Prop where
  name : c.name.size ≤ 9223372036854775807
  n : -9223372036854775808 ≤ c.n ∧ c.n ≤ 9223372036854775807
  len : -9223372036854775808 ≤ c.len ∧ c.len ≤ 9223372036854775807

theorem does_fin {w wA w1 w1' w2 w3 : World} {Fd Fw : Nat → Prop} {pd pw : Nat} {sd sw sd' sw' : RD} (h : Two w Fd Fw pd pw sd sw) (hA : Below w.heap.size w wA) (hd : DiskAt w1 (Gr Fd wA w1) pd sd') (ho1 : Only Fd wA w1) (hb1 : Below w1.heap.size w1 w1') (hr : RefAt w2 (Gr Fw w1' w2) pw sw') (ho2 : Only Fw w1' w2) (hb2 : Below w2.heap.size w2 w3) :
    ∃ Fd' Fw', Two w3 Fd' Fw' pd pw sd' sw' ∧ (∀ k, Fd' k → Fd k ∨ w.heap.size ≤ k) ∧ (∀ k, Fw' k → Fw k ∨ w.heap.size ≤ k) ∧ Only (fun k => Fd k ∨ Fw k) w w3 := by
  have t1 := (((h.quiet hA).dOp hd ho1).quiet hb1).rOp hr ho2
  have s1 := hA.size
  have s2 := ho1.size
  have s3 := hb1.size
  have s4 := ho2.size
  refine ⟨_, _, t1.quiet hb2, fun k hk => hk.elim .inl fun h1 => .inr (by omega), fun k hk => hk.elim .inl fun h1 => .inr (by omega), ?_⟩
  have o1 : Only (fun k => Fd k ∨ Fw k) w wA := Only.of_below hA
  have o2 := o1.trans (ho1.mono fun k _ hk => (.inl hk : Fd k ∨ Fw k)) fun _ _ h => h
  have o3 := o2.trans (Only.of_below hb1 : Only (fun k => Fd k ∨ Fw k) w1 w1') fun _ _ h => h
  have o4 := o3.trans (ho2.mono fun k _ hk => (.inr hk : Fd k ∨ Fw k)) fun _ _ h => h
  exact o4.trans (Only.of_below hb2 : Only (fun k => Fd k ∨ Fw k) w2 w3) fun _ _ h => h

set_option maxRecDepth 100000 in
set_option maxHeartbeats 4000000 in
theorem does_cut (c : Cl) (pv : Value) (md mw : Nat) (sd sw : RD) (Fd Fw : Nat → Prop) (pd pw : Nat) (w : World) (h : Two w Fd Fw pd pw sd sw) (hod : Well sd md) (how : Well sw mw) (hc : c.Fit) (hk : c.kind = 2) :
    Calls Try.prog 10 #[.pointer (some ⟨pd, 0, none⟩), .pointer (some ⟨pw, 0, none⟩), c.enc pv] w fun e w' => DoesAt Fd Fw pd pw sd sw c w e w' := by
  have H := Lib.hid h
  have HD := Lib.hid (fun W (hb : Below w.heap.size w W) => disk_cut c.name c.n (h.quiet hb).d hod hc.name hc.n)
  have HW := Lib.hid (fun W F (hr : RefAt W F pw sw) => ref_cut c.name c.n hr how.ok how.small hc.name hc.n)
  have hB : doesB sd sw c = decide ((sd.cut c.name c.n).2 = (sw.cut c.name c.n).2) := by unfold doesB; rw [if_neg (by omega), if_pos hk]
  have hd1 : sd.step c = (sd.cut c.name c.n).1 := by unfold RD.step; rw [if_neg (by omega), if_pos hk]
  have hw1 : sw.step c = (sw.cut c.name c.n).1 := by unfold RD.step; rw [if_neg (by omega), if_pos hk]
  have HT := Lib.hid (And.intro hB (And.intro hd1 hw1))
  unfold Cl.enc
  rw [hk]
  clear h hB hd1 hw1
  generalize (sd.cut c.name c.n).2 = a at *
  generalize (sw.cut c.name c.n).2 = b at *
  have hab : ((a : Int) == (b : Int)) = decide (a = b) := by rw [Bool.eq_iff_iff, beq_iff_eq, decide_eq_true_iff]; omega
  obtain ⟨wA, hwA⟩ : ∃ wA : World, wA = w.alloc (.cells #[.int .i64 2, .string c.name, .int .i64 c.n, .int .i64 c.len, .int .u8 (c.x.toNat : Int), pv] 36) := ⟨_, rfl⟩
  have hblk : Blk wA w.heap.size 36 #[.int .i64 2, .string c.name, .int .i64 c.n, .int .i64 c.len, .int .u8 (c.x.toNat : Int), pv] := by rw [hwA]; exact heap_alloc_new _ _
  have HBA : Hid (Below w.heap.size w wA) := Lib.hid (by rw [hwA]; exact (Below.refl _ _).alloc (Nat.le_refl _) _)
  have hsz : wA.heap.size = w.heap.size + 1 := by rw [hwA]; simp
  have a1 : wA.cell? ⟨w.heap.size, 1, none⟩ = some (.string c.name) := by rw [hblk.cell]; rfl
  have a2 : wA.cell? ⟨w.heap.size, 2, none⟩ = some (.int .i64 c.n) := by rw [hblk.cell]; rfl
  have hlt : w.heap.size < wA.heap.size := by omega
  go_enter Try.func10, Try.ntmps10
  go_upto_region 12 with fail
  rw [← hwA]
  clear hwA hblk
  have BA := Lib.hid HBA.out.drew
  go_region_held3 (fun w' => w'.cell? ⟨w.heap.size, 1, none⟩ = some (.string c.name) ∧ w'.cell? ⟨w.heap.size, 2, none⟩ = some (.int .i64 c.n))
    (first
      | exact ⟨a1, a2⟩
      | exact ⟨b1', b2'⟩
      | exact ⟨b1, b2⟩
      | go_keep)
    (first
      | (go_at_call 31; refine (HW.out _ _ HT1.out.r).mono ?_; rintro e w2 ⟨rfl, hr2, ho2⟩; have b1' := (ho2.cell (p := ⟨w.heap.size, 1, none⟩) hl1 (fun hf => by have := H.out.lw _ hf; simp at this)).trans b1; have b2' := (ho2.cell (p := ⟨w.heap.size, 2, none⟩) hl1 (fun hf => by have := H.out.lw _ hf; simp at this)).trans b2; have HFin := Lib.hid (does_fin H.out BA.out hd1 ho1 (Below.refl _ _) hr2 ho2 (Below.refl _ _)))
      | (go_at_call 23; refine (HD.out _ BA.out).mono ?_; rintro e w1 ⟨rfl, hd1, ho1⟩; have HT1 := Lib.hid ((H.out.quiet BA.out).dOp hd1 ho1); have hl1 : w.heap.size < w1.heap.size := Nat.lt_of_lt_of_le hlt ho1.size; have b1 := (ho1.cell (p := ⟨w.heap.size, 1, none⟩) hlt (fun hf => by have := H.out.ld _ hf; simp at this)).trans a1; have b2 := (ho1.cell (p := ⟨w.heap.size, 2, none⟩) hlt (fun hf => by have := H.out.ld _ hf; simp at this)).trans a2)
      | fail)
  all_goals
    clear hd1 ho1 hr2 ho2
    go_wp2_with fail
    go_ret
    unfold DoesAt
    rw [HT.out.1, HT.out.2.1, HT.out.2.2]
    exact ⟨rfl, HFin.out⟩

set_option maxRecDepth 100000 in
set_option maxHeartbeats 4000000 in
theorem does_sync (c : Cl) (pv : Value) (md mw : Nat) (sd sw : RD) (Fd Fw : Nat → Prop) (pd pw : Nat) (w : World) (h : Two w Fd Fw pd pw sd sw) (hod : Well sd md) (how : Well sw mw) (hc : c.Fit) (hk : c.kind = 3) :
    Calls Try.prog 10 #[.pointer (some ⟨pd, 0, none⟩), .pointer (some ⟨pw, 0, none⟩), c.enc pv] w fun e w' => DoesAt Fd Fw pd pw sd sw c w e w' := by
  have H := Lib.hid h
  have HD := Lib.hid (fun W (hb : Below w.heap.size w W) => disk_sync c.name (h.quiet hb).d hod hc.name)
  have HW := Lib.hid (fun W F (hr : RefAt W F pw sw) => ref_sync c.name hr how.ok how.small hc.name)
  have hB : doesB sd sw c = decide ((sd.sync c.name).2 = (sw.sync c.name).2) := by unfold doesB; rw [if_neg (by omega), if_neg (by omega), if_pos hk]
  have hd1 : sd.step c = (sd.sync c.name).1 := by unfold RD.step; rw [if_neg (by omega), if_neg (by omega), if_pos hk]
  have hw1 : sw.step c = (sw.sync c.name).1 := by unfold RD.step; rw [if_neg (by omega), if_neg (by omega), if_pos hk]
  have HT := Lib.hid (And.intro hB (And.intro hd1 hw1))
  unfold Cl.enc
  rw [hk]
  clear h hB hd1 hw1
  generalize (sd.sync c.name).2 = a at *
  generalize (sw.sync c.name).2 = b at *
  have hab : ((a : Int) == (b : Int)) = decide (a = b) := by rw [Bool.eq_iff_iff, beq_iff_eq, decide_eq_true_iff]; omega
  obtain ⟨wA, hwA⟩ : ∃ wA : World, wA = w.alloc (.cells #[.int .i64 3, .string c.name, .int .i64 c.n, .int .i64 c.len, .int .u8 (c.x.toNat : Int), pv] 36) := ⟨_, rfl⟩
  have hblk : Blk wA w.heap.size 36 #[.int .i64 3, .string c.name, .int .i64 c.n, .int .i64 c.len, .int .u8 (c.x.toNat : Int), pv] := by rw [hwA]; exact heap_alloc_new _ _
  have HBA : Hid (Below w.heap.size w wA) := Lib.hid (by rw [hwA]; exact (Below.refl _ _).alloc (Nat.le_refl _) _)
  have hsz : wA.heap.size = w.heap.size + 1 := by rw [hwA]; simp
  have a1 : wA.cell? ⟨w.heap.size, 1, none⟩ = some (.string c.name) := by rw [hblk.cell]; rfl
  have hlt : w.heap.size < wA.heap.size := by omega
  go_enter Try.func10, Try.ntmps10
  go_upto_region 14 with fail
  rw [← hwA]
  clear hwA hblk
  have BA := Lib.hid HBA.out.drew
  go_region_held3 (fun w' => w'.cell? ⟨w.heap.size, 1, none⟩ = some (.string c.name))
    (first
      | exact a1
      | exact b1'
      | exact b1
      | go_keep)
    (first
      | (go_at_call 32; refine (HW.out _ _ HT1.out.r).mono ?_; rintro e w2 ⟨rfl, hr2, ho2⟩; have b1' := (ho2.cell (p := ⟨w.heap.size, 1, none⟩) hl1 (fun hf => by have := H.out.lw _ hf; simp at this)).trans b1; have HFin := Lib.hid (does_fin H.out BA.out hd1 ho1 (Below.refl _ _) hr2 ho2 (Below.refl _ _)))
      | (go_at_call 16; refine (HD.out _ BA.out).mono ?_; rintro e w1 ⟨rfl, hd1, ho1⟩; have HT1 := Lib.hid ((H.out.quiet BA.out).dOp hd1 ho1); have hl1 : w.heap.size < w1.heap.size := Nat.lt_of_lt_of_le hlt ho1.size; have b1 := (ho1.cell (p := ⟨w.heap.size, 1, none⟩) hlt (fun hf => by have := H.out.ld _ hf; simp at this)).trans a1)
      | fail)
  all_goals
    clear hd1 ho1 hr2 ho2
    go_wp2_with fail
    go_ret
    unfold DoesAt
    rw [HT.out.1, HT.out.2.1, HT.out.2.2]
    exact ⟨rfl, HFin.out⟩

set_option maxRecDepth 100000 in
set_option maxHeartbeats 4000000 in
theorem does_arm (c : Cl) (pv : Value) (md mw : Nat) (sd sw : RD) (Fd Fw : Nat → Prop) (pd pw : Nat) (w : World) (h : Two w Fd Fw pd pw sd sw) (_hod : Well sd md) (_how : Well sw mw) (hc : c.Fit) (hk : c.kind = 6) :
    Calls Try.prog 10 #[.pointer (some ⟨pd, 0, none⟩), .pointer (some ⟨pw, 0, none⟩), c.enc pv] w fun e w' => DoesAt Fd Fw pd pw sd sw c w e w' := by
  have H := Lib.hid h
  have HD := Lib.hid (fun W (hb : Below w.heap.size w W) => disk_arm c.n (h.quiet hb).d hc.n)
  have HW := Lib.hid (fun W F (hr : RefAt W F pw sw) => ref_arm c.n hr )
  have hB : doesB sd sw c = decide ((sd.arm c.n).2 = (sw.arm c.n).2) := by unfold doesB; rw [if_neg (by omega), if_neg (by omega), if_neg (by omega), if_neg (by omega), if_neg (by omega), if_pos hk]
  have hd1 : sd.step c = (sd.arm c.n).1 := by unfold RD.step; rw [if_neg (by omega), if_neg (by omega), if_neg (by omega), if_neg (by omega), if_neg (by omega), if_pos hk]
  have hw1 : sw.step c = (sw.arm c.n).1 := by unfold RD.step; rw [if_neg (by omega), if_neg (by omega), if_neg (by omega), if_neg (by omega), if_neg (by omega), if_pos hk]
  have HT := Lib.hid (And.intro hB (And.intro hd1 hw1))
  unfold Cl.enc
  rw [hk]
  clear h hB hd1 hw1
  generalize (sd.arm c.n).2 = a at *
  generalize (sw.arm c.n).2 = b at *
  have hab : ((a : Int) == (b : Int)) = decide (a = b) := by rw [Bool.eq_iff_iff, beq_iff_eq, decide_eq_true_iff]; omega
  obtain ⟨wA, hwA⟩ : ∃ wA : World, wA = w.alloc (.cells #[.int .i64 6, .string c.name, .int .i64 c.n, .int .i64 c.len, .int .u8 (c.x.toNat : Int), pv] 36) := ⟨_, rfl⟩
  have hblk : Blk wA w.heap.size 36 #[.int .i64 6, .string c.name, .int .i64 c.n, .int .i64 c.len, .int .u8 (c.x.toNat : Int), pv] := by rw [hwA]; exact heap_alloc_new _ _
  have HBA : Hid (Below w.heap.size w wA) := Lib.hid (by rw [hwA]; exact (Below.refl _ _).alloc (Nat.le_refl _) _)
  have hsz : wA.heap.size = w.heap.size + 1 := by rw [hwA]; simp
  have a2 : wA.cell? ⟨w.heap.size, 2, none⟩ = some (.int .i64 c.n) := by rw [hblk.cell]; rfl
  have hlt : w.heap.size < wA.heap.size := by omega
  go_enter Try.func10, Try.ntmps10
  go_upto_region 33 with fail
  rw [← hwA]
  clear hwA hblk
  have BA := Lib.hid HBA.out.drew
  go_region_held3 (fun w' => w'.cell? ⟨w.heap.size, 2, none⟩ = some (.int .i64 c.n))
    (first
      | exact a2
      | exact b2'
      | exact b2
      | go_keep)
    (first
      | (go_at_call 35; refine (HW.out _ _ HT1.out.r).mono ?_; rintro e w2 ⟨rfl, hr2, ho2⟩; have b2' := (ho2.cell (p := ⟨w.heap.size, 2, none⟩) hl1 (fun hf => by have := H.out.lw _ hf; simp at this)).trans b2; have HFin := Lib.hid (does_fin H.out BA.out hd1 ho1 (Below.refl _ _) hr2 ho2 (Below.refl _ _)))
      | (go_at_call 26; refine (HD.out _ BA.out).mono ?_; rintro e w1 ⟨rfl, hd1, ho1⟩; have HT1 := Lib.hid ((H.out.quiet BA.out).dOp hd1 ho1); have hl1 : w.heap.size < w1.heap.size := Nat.lt_of_lt_of_le hlt ho1.size; have b2 := (ho1.cell (p := ⟨w.heap.size, 2, none⟩) hlt (fun hf => by have := H.out.ld _ hf; simp at this)).trans a2)
      | fail)
  all_goals
    clear hd1 ho1 hr2 ho2
    go_wp2_with fail
    go_ret
    unfold DoesAt
    rw [HT.out.1, HT.out.2.1, HT.out.2.2]
    exact ⟨rfl, HFin.out⟩

end Go.Proofs.Ytoihkanneiknkaa

namespace Go.Proofs.Ytoihkanneiknkaa
open Go.RowKit
attribute [local go_sem ↓] Go.wp_at_zero Go.wp_at_succ

set_option maxRecDepth 100000 in
set_option maxHeartbeats 4000000 in
theorem does_crash (c : Cl) (Ap : Option Addr) (cp : Nat) (md mw : Nat) (sd sw : RD) (Fd Fw : Nat → Prop) (pd pw : Nat) (w : World) (h : Two w Fd Fw pd pw sd sw) (hod : Well sd md) (how : Well sw mw) (hk : c.kind = 7)
    (hpk : c.picks.length ≤ 9223372036854775807) (hpi : ∀ x ∈ c.picks, -9223372036854775808 ≤ x ∧ x ≤ 9223372036854775807) (hr : Reads w w.heap.size 1 Ap c.picks.length (pv_ c.picks)) (hs : 0 < c.picks.length → ∀ ad, Ap = some ad → ¬ Fd ad.block ∧ ¬ Fw ad.block) :
    Calls Try.prog 10 #[.pointer (some ⟨pd, 0, none⟩), .pointer (some ⟨pw, 0, none⟩), c.enc (.slice Ap c.picks.length cp)] w fun e w' => DoesAt Fd Fw pd pw sd sw c w e w' := by
  have H := Lib.hid h
  have HD := Lib.hid (fun W (hb : Below w.heap.size w W) (hr : Reads W W.heap.size 1 Ap c.picks.length (pv_ c.picks)) => disk_crash c.picks Ap cp (h.quiet hb).d hod hpk hpi hr fun h0 ad e => (hs h0 ad e).1)
  have HW := Lib.hid (fun W F (hr : RefAt W F pw sw) (hp : Reads W W.heap.size 1 Ap c.picks.length (pv_ c.picks)) => ref_crash c.picks Ap cp hr how.ok how.small hpk hpi hp)
  have HRp := Lib.hid hr
  have HSp := Lib.hid hs
  have hB : doesB sd sw c = true := by unfold doesB; rw [if_neg (by omega), if_neg (by omega), if_neg (by omega), if_neg (by omega), if_neg (by omega), if_neg (by omega), if_pos hk]
  have hd1 : sd.step c = sd.crash c.picks := by unfold RD.step; rw [if_neg (by omega), if_neg (by omega), if_neg (by omega), if_neg (by omega), if_neg (by omega), if_neg (by omega), if_pos hk]
  have hw1 : sw.step c = sw.crash c.picks := by unfold RD.step; rw [if_neg (by omega), if_neg (by omega), if_neg (by omega), if_neg (by omega), if_neg (by omega), if_neg (by omega), if_pos hk]
  have HT := Lib.hid (And.intro hB (And.intro hd1 hw1))
  unfold Cl.enc
  rw [hk]
  clear h hB hd1 hw1 hr hs hpi
  obtain ⟨wA, hwA⟩ : ∃ wA : World, wA = w.alloc (.cells #[.int .i64 7, .string c.name, .int .i64 c.n, .int .i64 c.len, .int .u8 (c.x.toNat : Int), .slice Ap c.picks.length cp] 36) := ⟨_, rfl⟩
  have hblk : Blk wA w.heap.size 36 #[.int .i64 7, .string c.name, .int .i64 c.n, .int .i64 c.len, .int .u8 (c.x.toNat : Int), .slice Ap c.picks.length cp] := by rw [hwA]; exact heap_alloc_new _ _
  have HBA : Hid (Below w.heap.size w wA) := Lib.hid (by rw [hwA]; exact (Below.refl _ _).alloc (Nat.le_refl _) _)
  have hsz : wA.heap.size = w.heap.size + 1 := by rw [hwA]; simp
  have a5 : wA.cell? ⟨w.heap.size, 5, none⟩ = some (.slice Ap c.picks.length cp) := by rw [hblk.cell]; rfl
  have hlt : w.heap.size < wA.heap.size := by omega
  have HRA : Hid (Reads wA wA.heap.size 1 Ap c.picks.length (pv_ c.picks)) := Lib.hid ((HRp.out.below HBA.out).more (by omega))
  have HRO := Lib.hid (fun w1 (ho : Only Fd wA w1) => (show Reads w1 w1.heap.size 1 Ap c.picks.length (pv_ c.picks) from if h0 : 0 < c.picks.length then HRA.out.off ho (fun ad e => (HSp.out h0 ad e).1) else ⟨HRA.out.1, fun hn => absurd hn h0⟩))
  go_enter Try.func10, Try.ntmps10
  go_upto_region 35 with fail
  rw [← hwA]
  clear hwA hblk
  go_wp2_with (first
      | (go_at_call 36; refine (HW.out _ _ HT1.out.r HR1.out).mono ?_; rintro e w2 ⟨rfl, hr2, ho2⟩; have HFin := Lib.hid (does_fin H.out HBA.out hd1 ho1 (Below.refl _ _) hr2 ho2 (Below.refl _ _)))
      | (go_at_call 17; refine (HD.out _ HBA.out HRA.out).mono ?_; rintro e w1 ⟨rfl, hd1, ho1⟩; have HT1 := Lib.hid ((H.out.quiet HBA.out).dOp hd1 ho1); have HR1 := Lib.hid (HRO.out _ ho1); have hl1 : w.heap.size < w1.heap.size := Nat.lt_of_lt_of_le hlt ho1.size; have b5 := (ho1.cell (p := ⟨w.heap.size, 5, none⟩) hlt (fun hf => by have := H.out.ld _ hf; simp at this)).trans a5))
  clear hd1 ho1 hr2 ho2
  go_ret
  unfold DoesAt
  rw [HT.out.1, HT.out.2.1, HT.out.2.2]
  exact ⟨rfl, HFin.out⟩
end Go.Proofs.Ytoihkanneiknkaa
