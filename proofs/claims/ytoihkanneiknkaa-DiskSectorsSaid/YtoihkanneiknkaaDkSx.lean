/- The walk of octavolaw04.DiskSectors. Conditions: the arguments are in memory as named. -/
import Derived.Test.YtoihkanneiknkaaDkSt
import Derived.Test.YtoihkanneiknkaaDkDf
import Derived.Test.YtoihkanneiknkaaOpenU
import Derived.Deep.CutRange
import Derived.Deep.RegionWith
import Derived.Deep.CutBlock
import Derived.StillTailTactics
import Derived.BigQuiet
import Derived.Deep.RegionHeld3
import Derived.Deep.DrawnRows
import Derived.Deep.QuietTactic
namespace Go.Proofs.Ytoihkanneiknkaa
open Go.RowKit

theorem a_named : named nmA = true := by decide +kernel
/-- The disk with its one file. -/
structure SecD (p : Nat) (w wr : World) (s : RD) (M : Nat → List UInt8) (sv nv : List UInt8) (i : Nat) (F : Nat → Prop) : Prop where
  disk : DiskAt wr F p s
  sec : SecS s nmA M sv nv i
  below : Below w.heap.size w wr
  fr : ∀ q, F q → w.heap.size ≤ q
  lt : ∀ q, F q → q < wr.heap.size
/-- The rows, and that they are none of the disk's. -/
structure MayD (w wr : World) (F : Nat → Prop) (gm j : Nat) (R : Nat → Rw) (M : Nat → List UInt8) : Prop where
  may : MayAt wr gm j R M
  fr : ∀ q, MayB gm j R q → w.heap.size ≤ q ∧ ¬ F q
section
variable {p i j gm : Nat} {w wr w' : World} {s s' : RD} {M M' : Nat → List UInt8} {sv nv sv' nv' : List UInt8} {F G : Nat → Prop} {R : Nat → Rw}
theorem SecD.quiet (h : SecD p w wr s M sv nv i F) (hb : Below wr.heap.size wr w') : SecD p w w' s M sv nv i F :=
  ⟨h.disk.only (Only.of_below hb : Only (fun _ => False) wr w') fun _ _ => id, h.sec, h.below.trans (hb.mono h.below.size), h.fr, fun q hq => Nat.lt_of_lt_of_le (h.lt q hq) hb.size⟩
theorem SecD.only (h : SecD p w wr s M sv nv i F) (ho : Only G wr w') (hG : ∀ q, G q → w.heap.size ≤ q ∧ ¬ F q) : SecD p w w' s M sv nv i F :=
  ⟨h.disk.only ho fun k hk hg => (hG k hg).2 hk, h.sec, h.below.trans (ho.below (fun q hq => (hG q hq).1) h.below.size), h.fr, fun q hq => Nat.lt_of_lt_of_le (h.lt q hq) ho.size⟩
theorem SecD.op (h : SecD p w wr s M sv nv i F) (hd : DiskAt w' (Gr F wr w') p s') (ho : Only F wr w') (hs : SecS s' nmA M' sv' nv' j) : SecD p w w' s' M' sv' nv' j (Gr F wr w') :=
  ⟨hd, hs, h.below.trans (ho.below h.fr h.below.size), fun q hq => hq.elim (h.fr q) fun g => Nat.le_trans h.below.size g.1, fun q hq => hq.elim (fun g => Nat.lt_of_lt_of_le (h.lt q g) ho.size) fun g => g.2⟩
theorem MayD.quiet (h : MayD w wr F gm j R M) (hb : Below wr.heap.size wr w') : MayD w w' F gm j R M := ⟨h.may.below hb, h.fr⟩
theorem MayD.op (h : MayD w wr F gm j R M) (ho : Only F wr w') : MayD w w' (Gr F wr w') gm j R M :=
  ⟨h.may.only ho fun q hq => (h.fr q hq).2, fun q hq => ⟨(h.fr q hq).1, fun hg => hg.elim (h.fr q hq).2 fun g => by have := h.may.lt q hq; omega⟩⟩
end
section
variable {p i q gm : Nat} {w wr W0 w8 : World} {s : RD} {M MM : Nat → List UInt8} {sv nv : List UInt8} {F : Nat → Prop} {R : Nat → Rw} {r8 : Rw} {l8 : List UInt8}
/-- The block of rows stands while one row turns. -/
theorem put_cell (hM : MayD w wr F gm 12 R MM) (hb : Below wr.heap.size wr W0) (hq : q < 12) (ho : Only (fun x => x = (R q).b) W0 w8) :
    (∃ u, w8.cell? ⟨gm, q, none⟩ = some u) ∧ w8.frozen? ⟨gm, q, none⟩ = false ∧ gm < w8.heap.size := by
  have h0 := hM.may.below hb
  have hk := h0.blk.only ho (fun e => h0.ne q hq e.symm)
  refine ⟨?_, hk.frozen q, hk.lt⟩
  rw [hk.cell]
  exact ⟨_, by have := mayCells_get (i := 12) R MM hq; simpa using this⟩
/-- A row is laid anew: the disk and the other rows stand. -/
theorem put_done (hS : SecD p w wr s M sv nv i F) (hM : MayD w wr F gm 12 R MM) (hb : Below wr.heap.size wr W0) (hq : q < 12) (hr : RowAt w8 r8 l8) (ho : Only (fun x => x = (R q).b) W0 w8) (hn : r8.b = (R q).b ∨ W0.heap.size ≤ r8.b) :
    SecD p w (w8.setCell ⟨gm, q, none⟩ (rowV r8 l8.length)) s M sv nv i F ∧ MayD w (w8.setCell ⟨gm, q, none⟩ (rowV r8 l8.length)) F gm 12 (fun j => if j = q then r8 else R j) (fun j => if j = q then l8 else MM j) := by
  have h0 := hM.may.below hb
  have hs0 := hS.quiet hb
  have hgm := hM.fr gm (.inl rfl)
  have hrq := hM.fr (R q).b (.inr ⟨q, hq, rfl⟩)
  have hs8 := hs0.only ho fun x hx => by rw [hx]; exact hrq
  refine ⟨hs8.only ((Only.refl (fun x => x = gm) w8).setCell (p := ⟨gm, q, none⟩) (.inl rfl) _) fun x hx => by rw [hx]; exact hgm, h0.lay q hq (Nat.le_refl _) r8 l8 ho hr hn, fun x hx => ?_⟩
  rcases hx with rfl | ⟨j, hj, rfl⟩
  · exact hgm
  · try dsimp only
    by_cases hjq : j = q
    · rw [if_pos hjq]
      rcases hn with e | e
      · rw [e]; exact hrq
      · exact ⟨Nat.le_trans hs0.below.size e, fun hf => by have := hs0.lt _ hf; omega⟩
    · rw [if_neg hjq]
      exact hM.fr _ (.inr ⟨j, hj, rfl⟩)
end
theorem SecS.like {s : RD} {nm : ByteArray} {M M' : Nat → List UInt8} {sv nv : List UInt8} {i : Nat} (h : SecS s nm M sv nv i) (he : ∀ k, k < 12 → M k = M' k) : SecS s nm M' sv nv i :=
  ⟨h.files, h.down, h.armed, h.room, h.left, h.chg, h.plen, fun q hq => by
    obtain ⟨k, x, hk, e, hx⟩ := h.pend q hq
    exact ⟨k, x, hk, e, by rw [← he k hk]; exact hx⟩, h.sl, h.nl, fun k hk => by rw [← he k hk]; exact h.safe k hk, fun k hk => by rw [← he k hk]; exact h.now k hk⟩
theorem SecD.like {p i : Nat} {w wr : World} {s : RD} {M M' : Nat → List UInt8} {sv nv : List UInt8} {F : Nat → Prop} (h : SecD p w wr s M sv nv i F) (he : ∀ k, k < 12 → M k = M' k) : SecD p w wr s M' sv nv i F :=
  ⟨h.disk, h.sec.like he, h.below, h.fr, h.lt⟩
theorem MJ_len {M : Nat → List UInt8} {k : Nat} (h : ∀ j, (M j).length ≤ k + 1) (a n : Nat) (x : UInt8) (j : Nat) : (MJ M a n x j).length ≤ k + 1 + 1 := by
  have := h j
  unfold MJ
  split
  · rw [List.length_append, List.length_singleton]; omega
  · omega
theorem MK_len {M : Nat → List UInt8} {k : Nat} (h : ∀ j, (M j).length ≤ k) (n j : Nat) : (MK M n j).length ≤ k := by
  have := h j
  unfold MK
  split
  · rw [List.length_drop]; omega
  · omega
/-- Some of the bytes of a slice that reads. -/
theorem reads_part {w : World} {B b off : Nat} {l : List UInt8} {N : Nat} (h : Reads w B 1 (some ⟨b, off, none⟩) N (bv l)) (a n : Nat) (hn : a + n ≤ N) (h0 : 0 < n) : Reads w B 1 (some ⟨b, off + a, none⟩) n (bv ((l.drop a).take n)) := by
  have hl : l.length = N := by have := h.1; rw [bv_length, Nat.mul_one] at this; exact this
  refine ⟨by rw [bv_length, List.length_take, List.length_drop]; omega, fun _ => ?_⟩
  obtain ⟨b', off', e, hB, hc⟩ := h.form (by omega)
  injection e with e; injection e with e1 e2
  subst e1 e2
  refine ⟨_, rfl, hB, fun j u hu => ?_⟩
  have ha : (⟨b, off + a, none⟩ : Addr).add j = ⟨b, off + (a + j), none⟩ := by unfold Addr.add; split <;> simp_all <;> omega
  have hj : j < n := by have := (List.getElem?_eq_some_iff.1 hu).1; rw [bv_length, List.length_take, List.length_drop] at this; omega
  rw [ha]
  refine hc (a + j) u ?_
  rw [← hu]
  have e : (bv ((l.drop a).take n)) = ((bv l).drop a).take n := by simp only [bv, List.map_take, List.map_drop]
  rw [e, List.getElem?_take_of_lt hj, List.getElem?_drop]
theorem sec_facts {q c : Nat} (hq : q < 12) (hc : 768 ≤ c) : ∃ Q : Nat, Q = 64 * q ∧ IntKind.i64.wrap (64 * (q : Int)) = (Q : Int) ∧ IntKind.i64.wrap ((Q : Int) + 64) = (Q : Int) + 64 ∧ (0 : Int) ≤ (Q : Int) ∧ (Q : Int) ≤ (Q : Int) + 64 ∧ (Q : Int) + 64 ≤ (c : Int) ∧ ¬ c = Q :=
  ⟨64 * q, rfl, by rw [IntWalk.i64_in _ (by omega)]; omega, IntWalk.i64_in _ (by omega), by omega, by omega, by omega, by omega⟩
theorem same_secs {W : World} {b off B q c c' : Nat} {v' : List UInt8} {y : UInt8} {A' : Option Addr} (hv : v'.length = 12) (hq : q < 12) (hr : Reads W W.heap.size 1 (some ⟨b, off, none⟩) 768 (bv (secs v'))) (hr' : Reads W B 1 A' 64 (bv (List.replicate 64 y))) :
    Calls Try.prog 20 #[.slice (some ⟨b, off + 64 * q, none⟩) 64 c, .slice A' 64 c'] W fun e w' => e = .returned (.bool (decide (v'.getD q 0 = y))) ∧ Below W.heap.size W w' := by
  have h1 := reads_part hr (64 * q) 64 (by omega) (by omega)
  rw [secs_get v' q (by omega)] at h1
  have hl : (List.replicate 64 (v'.getD q 0)).length = 64 := List.length_replicate
  have hl' : (List.replicate 64 y).length = 64 := List.length_replicate
  have h2 := same_any (List.replicate 64 (v'.getD q 0)) (List.replicate 64 y) (some ⟨b, off + 64 * q, none⟩) A' W.heap.size B c c' W (by rw [hl]; decide) (by rw [hl']; decide) (by rw [hl]; exact h1) (by rw [hl']; exact hr')
  rw [hl, hl'] at h2
  refine h2.mono fun e w' ⟨e1, e2⟩ => ⟨?_, e2⟩
  have e3 : decide (List.replicate 64 (v'.getD q 0) = List.replicate 64 y) = decide (v'.getD q 0 = y) := decide_eq_decide.2 ⟨fun h => by
    have := congrArg (fun l => l[0]?) h
    simpa using this, fun h => by rw [h]⟩
  rw [← e3]
  exact e1
theorem full_same {w4 W : World} {gb ob q : Nat} {v' : List UInt8} (y : UInt8) (hv : v'.length = 12) (hq : q < 12) (hr : Reads w4 w4.heap.size 1 (some ⟨gb, ob, none⟩) 768 (bv (secs v'))) (hb : Below w4.heap.size w4 W) :
    Calls Try.prog 13 #[.int .i64 64, .int .u8 (y.toNat : Int)] W fun e w' => ∃ A c, e = .returned (.slice A 64 c) ∧
      (∀ c', Calls Try.prog 20 #[.slice (some ⟨gb, ob + 64 * q, none⟩) 64 c', .slice A 64 c] w' fun e w'' => e = .returned (.bool (decide (v'.getD q 0 = y))) ∧ Below w'.heap.size w' w'') ∧ Below W.heap.size W w' := by
  refine Calls.mono (full_any 64 y W (by omega)) ?_
  rintro e w' ⟨v, rfl, ho, hb'⟩
  obtain ⟨A, c, rfl, h1, -, h2, -⟩ := own_form ho
  have h3 := hb.trans (hb'.mono hb.size)
  exact ⟨A, c, rfl, fun c' => same_secs hv hq ((hr.over h3).more h3.size) h2, hb'⟩
theorem win64 (Q : Nat) : ((Q : Int) + 64).toNat - Q = 64 := by omega
theorem take_step {l : List UInt8} {t : Nat} {x : UInt8} {g : Bool} (ht : t < l.length) (hg : x ∈ l.take t → g = true) : (x ∈ l.take (t + 1) → (g || decide (x = l[t])) = true) := fun h => by
  rw [List.take_succ_eq_append_getElem ht, List.mem_append] at h
  rcases h with h | h
  · rw [hg h]; rfl
  · have : x = l[t] := by simpa using h
    rw [decide_eq_true this, Bool.or_true]
/-- The loss of power, with what is known behind it. -/
def CrashAt (p : Nat) (w _wo : World) (s : RD) (M : Nat → List UInt8) (gm : Nat) (R : Nat → Rw) (w2 : World) : Prop :=
  ∃ (F2 : Nat → Prop) (v' : List UInt8), v'.length = 12 ∧ (∀ k, k < 12 → v'.getD k 0 ∈ M k) ∧ Well s 2000 ∧ s.read nmA 0 768 = (secs v', 0) ∧ s.size nmA = 768 ∧ DiskAt w2 F2 p s ∧ Below w.heap.size w w2 ∧ (∀ q, F2 q → w.heap.size ≤ q) ∧ (∀ q, F2 q → q < w2.heap.size) ∧ MayAt w2 gm 12 R M
theorem sec_crash {p m gm : Nat} {w wo : World} {s : RD} {M : Nat → List UInt8} {sv nv : List UInt8} {F : Nat → Prop} {R : Nat → Rw} (hS : SecD p w wo s M sv nv m F) (hM : MayD w wo F gm 12 R M) (hm : m ≤ 80)
    (pk : List Int) (A : Option Addr) (c : Nat) (hpk : pk.length ≤ 9223372036854775807) (hpi : ∀ x ∈ pk, -9223372036854775808 ≤ x ∧ x ≤ 9223372036854775807) (hr : Reads w w.heap.size 1 A pk.length (pv_ pk)) :
    Calls Try.prog 17 #[.pointer (some ⟨p, 0, none⟩), .slice A pk.length c] wo fun e w' => e = .returned (.tuple #[]) ∧ CrashAt p w wo (s.crash pk) M gm R w' := by
  obtain ⟨v', h1, h2, h3, h4, h5⟩ := hS.sec.crash a_named (by omega) pk
  refine (disk_crash pk A c hS.disk (hS.sec.well a_named (by omega)) hpk hpi ((hr.below hS.below).more hS.below.size) fun h0 ad e hf => ?_).mono fun e w' ⟨e1, e2, e3⟩ => ⟨e1, Gr F wo w', v', h1, h2, h3, h4, h5, e2, hS.below.trans (e3.below hS.fr hS.below.size),
    fun q hq => hq.elim (hS.fr q) fun g => Nat.le_trans hS.below.size g.1, fun q hq => hq.elim (fun g => Nat.lt_of_lt_of_le (hS.lt q g) e3.size) fun g => g.2, (hM.op e3).may⟩
  obtain ⟨ad', e', h2, _⟩ := hr.2 h0
  rw [e] at e'
  cases e'
  have := hS.fr _ hf
  omega
theorem slice_info : (Try.prog.info? 41).map (fun i => (i.zero, i.size, i.bytes)) = some (some (.slice none 0 0), 1, 24) := by kernel_rfl
set_option maxRecDepth 100000 in
set_option maxHeartbeats 8000000 in
theorem sectors_any (l : List Pt) (A : Option Addr) (c : Nat) (pk : List Int) (Aq : Option Addr) (cq : Nat) (w : World)
    (hc : ∀ k (h : k < l.length), PutIn w A k l[k]) (hpk : pk.length ≤ 9223372036854775807) (hpi : ∀ x ∈ pk, -9223372036854775808 ≤ x ∧ x ≤ 9223372036854775807) (hrp : Reads w w.heap.size 1 Aq pk.length (pv_ pk)) :
    Calls Try.prog 4 #[.slice A l.length c, .slice Aq pk.length cq] w fun e w' => e = .returned (.bool true) ∧ Below w.heap.size w w' := by
  have HNew := Lib.hid (disk_new 100000 w (by omega))
  have HAw := Lib.hid awake_any
  have HC := Lib.hid hc
  have HPi := Lib.hid hpi
  have HRp := Lib.hid hrp
  obtain ⟨hl0, hls⟩ := secs_load nmA a_named
  have hfu := fun W => full_any 768 0 W (by omega)
  have hzl : (List.replicate 768 (0 : UInt8)).length = 768 := List.length_replicate
  generalize List.replicate 768 (0 : UInt8) = Z at *
  generalize hs0 : ((RD.new 100000).load nmA Z).1 = s0 at *
  have HFu : Hid (∀ W, Calls Try.prog 13 #[.int .i64 768, .int .u8 0] W fun e w' => ∃ A c, e = .returned (.slice A 768 c) ∧ 768 ≤ c ∧ Reads w' w'.heap.size 1 A 768 (bv Z) ∧ (∀ ad, A = some ad → W.heap.size ≤ ad.block) ∧ Below W.heap.size W w') := Lib.hid (fun W => by
    refine Calls.mono (hfu W) ?_
    rintro e w' ⟨v, rfl, ho, hb⟩
    obtain ⟨A, c, rfl, h1, -, h2, h3⟩ := own_form ho
    exact ⟨A, c, rfl, h1, h2, fun ad e => (h3 ad e).1, hb⟩)
  have HLo : Hid (∀ (W : World) (F : Nat → Prop) (p : Nat) (A : Option Addr) (c : Nat), DiskAt W F p (RD.new 100000) → 768 ≤ c → Reads W W.heap.size 1 A 768 (bv Z) → (∀ ad, A = some ad → ¬ F ad.block) →
      Calls Try.prog 12 #[.pointer (some ⟨p, 0, none⟩), .string nmA, .slice A 768 c] W fun e w' => DkOp F p s0 0 W e w') := Lib.hid (fun W F p A c hd hc hr hs => by
    have h1 := disk_load nmA Z A c hd (⟨new_ok 100000 (by omega), nice_new _ _ _ _ _ _, by omega⟩ : Well (RD.new 100000) 0) (by decide) (by rw [hzl]; omega) (by rw [hzl]; exact hr) hs
    rw [hs0, hl0, hzl] at h1
    exact h1)
  have HLS := Lib.hid hls
  clear hc hpi hrp hl0 hls hfu hzl hs0
  go_enter Try.func4, Try.ntmps4
  go_upto_region 4 with (first
    | (go_at_call 8; refine HNew.out.mono ?_; rintro e w1 (⟨hbad, -, -⟩ | ⟨-, p, F, rfl, hd1, hF1, hb1⟩); · omega)
    | (go_at_call 9; refine (HAw.out w1).mono ?_; rintro e w2 ⟨rfl, hb2⟩))
  have hd2 : DiskAt w2 F p (RD.new 100000) := hd1.only (Only.of_below hb2 : Only (fun _ => False) w1 w2) fun _ _ => id
  have hw2 : Below w.heap.size w w2 := hb1.trans (hb2.mono hb1.size)
  have HD2 := Lib.hid hd2
  have HF2 : Hid (∀ q, F q → w.heap.size ≤ q ∧ q < w2.heap.size) := Lib.hid fun q hq => ⟨(hF1 q hq).1, Nat.lt_of_lt_of_le (hF1 q hq).2 hb2.size⟩
  have HW2 := Lib.hid hw2
  clear hd1 hF1 hb1 hb2 hd2 hw2
  go_wp2_with (first
    | (go_at_call 13; refine (HFu.out w2).mono ?_; rintro e w3 ⟨A3, c3, rfl, hc3, hr3, hA3, hb3⟩; have HR3 := Lib.hid hr3; have HB3 := Lib.hid hb3; have HA3 := Lib.hid hA3; clear hr3 hb3 hA3)
    | (go_at_call 12; refine (HLo.out w3 F p A3 c3 (HD2.out.only (Only.of_below HB3.out : Only (fun _ => False) w2 w3) fun _ _ => id) hc3 HR3.out (fun ad e hf => by have := HA3.out ad e; have := HF2.out _ hf; omega)).mono ?_; rintro e w4 ⟨rfl, hd4, ho4⟩; have H4 := Lib.hid (And.intro hd4 ho4); clear hd4 ho4)
    | fail)
  have hw3 := HW2.out.trans (HB3.out.mono HW2.out.size)
  have hsd : SecD p w w4 s0 (fun _ => [0]) (List.replicate 12 0) (List.replicate 12 0) 0 (Gr F w3 w4) :=
    ⟨H4.out.1, HLS.out, hw3.trans (H4.out.2.below (fun q hq => (HF2.out q hq).1) hw3.size), fun q hq => hq.elim (fun g => (HF2.out q g).1) fun g => Nat.le_trans hw3.size g.1, fun q hq => hq.elim (fun g => by have := (HF2.out q g).2; have := HB3.out.size; have := H4.out.2.size; omega) fun g => g.2⟩
  have HSD := Lib.hid hsd
  generalize Gr F w3 w4 = F4 at *
  generalize hM0 : (fun _ : Nat => ([0] : List UInt8)) = M0 at *
  have HM0 : Hid (∀ k, M0 k = [0]) := Lib.hid (fun k => by rw [← hM0])
  have hmk : ∀ W, (Instr.makeSlice 43 (.int .i64 12) (.int .i64 12)).run Try.prog W = .ok (.slice (some ⟨W.heap.size, 0, none⟩) 12 12) (W.alloc (.cells (mayCells 0 (fun _ => ⟨0, 0, 0⟩) M0).toArray 41)) := fun W => by
    have e : (mayCells 0 (fun _ => ⟨0, 0, 0⟩) M0).toArray = madeCells #[Value.slice none 0 0] 12 := by rw [may_none]; kernel_rfl
    rw [e]
    exact run_make_row' (P := Try.prog) 43 41 (.slice none 0 0) 24 Try.underlying43 slice_info rfl .i64 .i64 12 (by omega) (by omega) W
  generalize hz12 : List.replicate 12 (0 : UInt8) = Z12 at *
  clear hw3 hsd HD2 HF2 HW2 HB3 HA3 HR3 H4 HLS HLo HFu HNew HAw hM0 hz12
  obtain ⟨gm, hgm⟩ : ∃ gm, gm = w4.heap.size := ⟨_, rfl⟩
  have hmay0 : MayD w (w4.alloc (.cells (mayCells 0 (fun _ => ⟨0, 0, 0⟩) M0).toArray 41)) F4 gm 0 (fun _ => ⟨0, 0, 0⟩) M0 :=
    ⟨⟨by rw [hgm]; exact Blk.new w4 _ _, fun k hk => absurd hk (Nat.not_lt_zero _), fun j k hj => absurd hj (Nat.not_lt_zero _)⟩, fun q hq => by
      rcases hq with rfl | ⟨k, hk, _⟩
      · rw [hgm]; exact ⟨HSD.out.below.size, fun hf => by have := HSD.out.lt _ hf; omega⟩
      · exact absurd hk (Nat.not_lt_zero _)⟩
  have HMay0 := Lib.hid hmay0
  clear hmay0
  go_upto_region 8 with fail
  rw [← hgm]
  clear hgm
  go_loopw [8] (fun i wr => ∃ (k : Nat) (R : Nat → Rw), k ≤ 12 ∧ i = .int .i64 k ∧ Hid (SecD p w wr s0 M0 Z12 Z12 0 F4) ∧ Hid (MayD w wr F4 gm k R M0)) (fun i _ => 12 - (intOf i).toNat)
  case atStart => exact ⟨0, _, by omega, rfl, HSD.out.quiet ((Below.refl _ _).alloc (Nat.le_refl _) _), HMay0.out⟩
  case round =>
    obtain ⟨k, R, hk, rfl, HS, HM⟩ := hrel
    by_cases hlt : k < 12
    · have hi : (k : Int) < 12 := by omega
      have hi0 : (0 : Int) ≤ (k : Int) := by omega
      obtain ⟨u, hcell⟩ := HM.out.may.there k hlt
      have hfr := HM.out.may.blk.frozen k
      have hgl : gm < wr.heap.size := HM.out.may.blk.lt
      have hgw : w.heap.size ≤ gm := (HM.out.fr gm (.inl rfl)).1
      have hbel : Below wr.heap.size wr (wr.alloc (.cells #[.int .u8 0] 5)) := (Below.refl _ _).alloc (Nat.le_refl _) _
      have hnx := HM.out.may.next hlt ⟨wr.heap.size, 0, 1⟩ hbel (by rw [HM0.out k]; exact rowAt_new wr 0) (Nat.le_refl _)
      rw [HM0.out k] at hnx
      have hse : (wr.alloc (.cells #[.int .u8 0] 5)).setCell ⟨gm, k, none⟩ (rowV ⟨wr.heap.size, 0, 1⟩ ([0] : List UInt8).length) = (wr.setCell ⟨gm, k, none⟩ (.slice (some ⟨wr.heap.size, 0, none⟩) 1 1)).alloc (.cells #[.int .u8 0] 5) := World.setCell_alloc_past _ _ _ _ hgl
      rw [hse] at hnx
      have hmd : MayD w ((wr.setCell ⟨gm, k, none⟩ (.slice (some ⟨wr.heap.size, 0, none⟩) 1 1)).alloc (.cells #[.int .u8 0] 5)) F4 gm (k + 1) (fun j => if j = k then ⟨wr.heap.size, 0, 1⟩ else R j) M0 := ⟨hnx, fun q hq => by
        rcases hq with rfl | ⟨j, hj, rfl⟩
        · exact HM.out.fr _ (.inl rfl)
        · try dsimp only
          by_cases hjk : j = k
          · rw [if_pos hjk]
            exact ⟨HS.out.below.size, fun hf => by have := HS.out.lt _ hf; simp at this⟩
          · rw [if_neg hjk]
            exact HM.out.fr _ (.inr ⟨j, by omega, rfl⟩)⟩
      have hsd : SecD p w ((wr.setCell ⟨gm, k, none⟩ (.slice (some ⟨wr.heap.size, 0, none⟩) 1 1)).alloc (.cells #[.int .u8 0] 5)) s0 M0 Z12 Z12 0 F4 :=
        (HS.out.only ((Only.refl (fun q => q = gm) wr).setCell (p := ⟨gm, k, none⟩) (.inl rfl) _) (fun q hq => by rw [hq]; exact HM.out.fr gm (.inl rfl))).quiet ((Below.refl _ _).alloc (Nat.le_refl _) _)
      have HMd := Lib.hid hmd
      have HSd := Lib.hid hsd
      clear hnx hse hmd hsd hbel HS HM
      go_wp2_with fail
      go_roundw
      case rel => exact ⟨k + 1, _, by omega, by go_num, HSd.out, HMd.out⟩
      case measure => simp [intOf]; omega
    · have hk12 : k = 12 := by omega
      have hik : (12 : Int) ≤ (k : Int) := by omega
      rw [hk12] at HM
      clear hk12 hk hlt hmk HSD HMay0
      go_wp2_with fail
      go_loopw [9] (fun i wr => ∃ (k : Nat) (s : RD) (M : Nat → List UInt8) (sv nv : List UInt8) (m : Nat) (F : Nat → Prop) (R : Nat → Rw), k ≤ l.length ∧ k ≤ 40 ∧ i = .int .i64 k ∧ m ≤ 2 * k ∧ Hid (SecD p w wr s M sv nv m F) ∧ Hid (MayD w wr F gm 12 R M) ∧ Hid (∀ j, (M j).length ≤ k + 1)) (fun i _ => l.length - (intOf i).toNat)
      case atStart => exact ⟨0, s0, M0, Z12, Z12, 0, F4, R, Nat.zero_le _, by omega, rfl, by omega, HS.out, HM.out, fun j => by rw [HM0.out j]; simp⟩
      case round =>
        obtain ⟨wo, rfl⟩ : ∃ wo : World, wo = wr := ⟨_, rfl⟩
        clear HS HM
        obtain ⟨k, s, M, sv, nv, m, F, R, hk, hk40, rfl, hm, HS, HM, HLn⟩ := hrel
        by_cases hlt : k < l.length
        · by_cases h40 : k < 40
          · have hi : (k : Int) < (l.length : Int) := by omega
            have hi4 : (k : Int) < 40 := by omega
            have hi0 : (0 : Int) ≤ (k : Int) := by omega
            obtain ⟨⟨bb, o, rfl, hb, x0, x1, x2, x3⟩, hat, hnn⟩ := HC.out k hlt
            generalize l[k] = pt at *
            obtain ⟨pa, pn, px, psy⟩ := pt
            simp only at x0 x1 x2 x3 hat hnn
            have hold : bb < w.heap.size := hb
            have y0 := (HS.out.below.cell (p := ⟨bb, o + k * 4, none⟩) hb).trans x0
            have y1 := (HS.out.below.cell (p := ⟨bb, o + k * 4 + 1, none⟩) hb).trans x1
            have y2 := (HS.out.below.cell (p := ⟨bb, o + k * 4 + 2, none⟩) hb).trans x2
            have y3 := (HS.out.below.cell (p := ⟨bb, o + k * 4 + 3, none⟩) hb).trans x3
            have hm12 : 0 ≤ pa % 12 := Int.emod_nonneg _ (by omega)
            have hm12' : pa % 12 < 12 := Int.emod_lt_of_pos _ (by omega)
            have HP1 := Lib.hid (fun W => pick_any pa 12 W (by omega))
            generalize pa % 12 = a at *
            have hmn : 0 ≤ pn % (13 - a) := Int.emod_nonneg _ (by omega)
            have hmn' : pn % (13 - a) < 13 - a := Int.emod_lt_of_pos _ (by omega)
            have HP2 := Lib.hid (fun W => pick_any pn (13 - a) W (by omega))
            generalize pn % (13 - a) = n at *
            have x2' := x2
            have x3' := x3
            clear x0 x1 x2 x3
            go_upto_region 16 with (first
              | (go_at_call 14; have m0 := mk1; refine (HP2.out _).mono ?_; rintro e w1 ⟨rfl, rfl⟩)
              | (go_at_call 14; refine (HP1.out _).mono ?_; rintro e w1 ⟨rfl, rfl⟩; have mk1 := trivial))
            obtain ⟨a, rfl⟩ : ∃ a0 : Nat, a = a0 := ⟨a.toNat, by omega⟩
            obtain ⟨n, rfl⟩ : ∃ n0 : Nat, n = n0 := ⟨n.toNat, by omega⟩
            have han : a + n ≤ 12 := by omega
            have hfu := fun W => full_any (64 * n) px W (by omega)
            obtain ⟨hw0, nv', hws⟩ := HS.out.sec.write a_named a n px han
            have hzl : (List.replicate (64 * n) px).length = 64 * n := List.length_replicate
            generalize List.replicate (64 * n) px = Z2 at *
            generalize hs1 : (s.write nmA (64 * (a : Int)) Z2).1 = s1 at *
            have e64 : ((64 * n : Nat) : Int) = 64 * (n : Int) := by omega
            rw [e64] at hfu
            have HFu : Hid (∀ W, Calls Try.prog 13 #[.int .i64 (64 * (n : Int)), .int .u8 (px.toNat : Int)] W fun e w' => ∃ A c, e = .returned (.slice A (64 * n) c) ∧ 64 * n ≤ c ∧ Reads w' w'.heap.size 1 A (64 * n) (bv Z2) ∧ (∀ ad, A = some ad → W.heap.size ≤ ad.block) ∧ Below W.heap.size W w') := Lib.hid (fun W => by
              refine Calls.mono (hfu W) ?_
              rintro e w' ⟨v, rfl, ho, hb⟩
              obtain ⟨A, c, rfl, h1, -, h2, h3⟩ := own_form ho
              exact ⟨A, c, rfl, h1, h2, fun ad e => (h3 ad e).1, hb⟩)
            have HWr : Hid (∀ (W : World) (A : Option Addr) (c : Nat), Below wo.heap.size wo W → 64 * n ≤ c → Reads W W.heap.size 1 A (64 * n) (bv Z2) → (∀ ad, A = some ad → wo.heap.size ≤ ad.block) →
                Calls Try.prog 15 #[.pointer (some ⟨p, 0, none⟩), .string nmA, .int .i64 (64 * (a : Int)), .slice A (64 * n) c] W fun e w' => DkOp F p s1 0 W e w') := Lib.hid (fun W A c hbW hc hr hs => by
              have h1 := disk_write nmA (64 * (a : Int)) Z2 A c (HS.out.quiet hbW).disk (HS.out.sec.well a_named (by omega)) (by decide) (by omega) (by rw [hzl]; omega) (by rw [hzl]; exact hr) (fun ad e hf => by have := hs ad e; have := HS.out.lt _ hf; omega) (by rw [hzl]; exact hc)
              rw [hs1, hw0, hzl] at h1
              exact h1)
            have HWS := Lib.hid hws
            have HHan := Lib.hid han
            clear hfu hzl e64 hw0 hs1 hws
            go_wp2_with (first
              | (go_at_call 13; refine (HFu.out wo).mono ?_; rintro e w6 ⟨A6, c6, rfl, hc6, hr6, hA6, hb6⟩; have HR6 := Lib.hid hr6; have HB6 := Lib.hid hb6; have HA6 := Lib.hid hA6; clear hr6 hb6 hA6)
              | (go_at_call 15; refine (HWr.out w6 A6 c6 HB6.out hc6 HR6.out HA6.out).mono ?_; rintro e w7 ⟨rfl, hd7, ho7⟩; have H7 := Lib.hid (And.intro hd7 ho7); clear hd7 ho7)
              | fail)
            have hsd7 : SecD p w w7 s1 (MJ M a n px) sv nv' (m + 1) (Gr F w6 w7) := (HS.out.quiet HB6.out).op H7.out.1 H7.out.2 HWS.out
            have hmd7 : MayD w w7 (Gr F w6 w7) gm 12 R M := (HM.out.quiet HB6.out).op H7.out.2
            have HSD7 := Lib.hid hsd7
            have HMD7 := Lib.hid hmd7
            generalize Gr F w6 w7 = F7 at *
            have HX2 := Lib.hid x2'
            have HX3 := Lib.hid x3'
            clear hsd7 hmd7 HS HM HFu HWr HWS HR6 HB6 HA6 H7 HP1 HP2 y0 y1 y2 y3
            go_loopw [12] (fun i wr => ∃ (j : Nat) (R : Nat → Rw), j ≤ n ∧ i = .int .i64 ((a + j : Nat) : Int) ∧ Hid (SecD p w wr s1 (MJ M a n px) sv nv' (m + 1) F7) ∧ Hid (MayD w wr F7 gm 12 R (MJ M a j px))) (fun i _ => a + n - (intOf i).toNat)
            case atStart => exact ⟨0, R, Nat.zero_le _, rfl, HSD7.out, by rw [MJ_zero]; exact HMD7.out⟩
            case round =>
              obtain ⟨j, R', hj, rfl, HS, HM⟩ := hrel
              clear HSD7 HMD7
              by_cases hjn : j < n
              · have hq : a + j < 12 := by have := HHan.out; omega
                obtain ⟨q, hqe⟩ : ∃ q, q = a + j := ⟨_, rfl⟩
                have hi1 : ((q : Nat) : Int) < (a : Int) + (n : Int) := by omega
                have hi2 : (q : Int) < 12 := by omega
                have hi3 : (0 : Int) ≤ (q : Int) := by omega
                have hy2 := (HS.out.below.cell (p := ⟨bb, o + k * 4 + 2, none⟩) hold).trans HX2.out
                have hrow := HM.out.may.row (a + j) hq
                rw [MJ_at] at hrow
                have hcell := HM.out.may.cell (a + j) hq hq
                rw [MJ_at] at hcell
                have hgl : gm < wr.heap.size := HM.out.may.blk.lt
                have hbw : bb < wr.heap.size := Nat.lt_of_lt_of_le hold HS.out.below.size
                rw [← hqe] at hq hrow hcell ⊢
                have hlen : (M q).length ≤ 1000 := by have := HLn.out q; omega
                generalize hRq : R' q = r at *
                obtain ⟨rb, ro, rc⟩ := r
                unfold rowV at hcell
                simp only at hcell
                have HRow := Lib.hid hrow
                have HLen := Lib.hid hlen
                have HRq := Lib.hid hRq
                have HQe := Lib.hid hqe
                clear hrow hlen hRq hqe
                go_upto_region 21 with fail
                have hbW : Below wr.heap.size wr (wr.alloc (.cells #[.int .u8 (px.toNat : Int)] 5)).drew := ((Below.refl _ _).alloc (Nat.le_refl _) _).drew
                have HBW := Lib.hid hbW
                have HRowW := Lib.hid (HRow.out.only (Only.of_below hbW : Only (fun _ => False) _ _) id)
                have HYW : Hid ((wr.alloc (.cells #[.int .u8 (px.toNat : Int)] 5)).drew.cell? ⟨wr.heap.size, 0, none⟩ = some (.int .u8 (px.toNat : Int))) := Lib.hid (by have h := (rowAt_new wr px).cell 0 (Nat.lt_succ_self 0); exact h)
                clear hbW
                go_region_law (first
                  | (refine step_app_row rfl (.tmp 92) (.tmp 98) rfl HRowW.out (M q).length rfl rfl ⟨wr.heap.size, 0, none⟩ 1 px rfl HYW.out HLen.out ?_; intro r8 w8 h8; obtain ⟨b8, o8, c8⟩ := r8; have hpc := put_cell HM.out HBW.out hq (by rw [HRq.out]; exact h8.out.2.1); obtain ⟨⟨u8, hc8⟩, hf8, hg8⟩ := hpc; have H8 := Lib.hid h8.out; clear h8)
                  | fail)
                all_goals
                  have hpd := put_done HS.out HM.out HBW.out hq H8.out.1 (by rw [HRq.out]; exact H8.out.2.1) (by rw [HRq.out]; exact H8.out.2.2)
                  have hv8 : rowV ⟨b8, o8, c8⟩ (M q ++ [px]).length = .slice (some ⟨b8, o8, none⟩) ((M q).length + 1) c8 := by rw [List.length_append]; rfl
                  rw [hv8] at hpd
                  have hmj := MJ_succ M a j px
                  rw [← HQe.out] at hmj
                  rw [hmj] at hpd
                  have HPd := Lib.hid hpd
                  clear hpd hv8 hmj
                  go_wp2_with fail
                  go_roundw
                  case rel => exact ⟨j + 1, _, by omega, by have := HQe.out; go_num, HPd.out.1, HPd.out.2⟩
                  case measure => simp [intOf]; have := HQe.out; omega
              · obtain rfl : j = n := by omega
                have hm1 : m + 1 ≤ 80 := by omega
                have hk50 : k + 1 + 1 ≤ 50 := by omega
                have hy3 := (HS.out.below.cell (p := ⟨bb, o + k * 4 + 3, none⟩) hold).trans HX3.out
                have hbw : bb < wr.heap.size := Nat.lt_of_lt_of_le hold HS.out.below.size
                have HLj := Lib.hid (MJ_len HLn.out a j px)
                generalize MJ M a j px = MM at *
                cases psy with
                | false =>
                  go_wp2_with fail
                  go_roundw
                  case rel => exact ⟨k + 1, s1, MM, sv, nv', m + 1, F7, R', by omega, by omega, by go_num, by omega, HS.out, HM.out, HLj.out⟩
                  case measure => simp [intOf]; omega
                | true =>
                  obtain ⟨hy0, hys⟩ := HS.out.sec.sync a_named
                  have hsy := disk_sync nmA HS.out.disk (HS.out.sec.well a_named (by omega)) (by decide)
                  rw [hy0] at hsy
                  generalize (s1.sync nmA).1 = s2 at *
                  have HSy := Lib.hid hsy
                  have HYs := Lib.hid hys
                  clear hy0 hys hsy
                  go_wp2_with (first
                    | (go_at_call 16; refine HSy.out.mono ?_; rintro e w9 ⟨rfl, hd9, ho9⟩; have H9 := Lib.hid (And.intro hd9 ho9); clear hd9 ho9)
                    | fail)
                  have hsd9 := HS.out.op H9.out.1 H9.out.2 HYs.out
                  have hmd9 := HM.out.op H9.out.2
                  have HSD9 := Lib.hid hsd9
                  have HMD9 := Lib.hid hmd9
                  generalize Gr F7 wr w9 = F9 at *
                  clear hsd9 hmd9 HS HM HSy HYs H9 hy3 hbw
                  go_loopw [13] (fun i wr => ∃ (q : Nat) (R : Nat → Rw), q ≤ 12 ∧ i = .int .i64 q ∧ Hid (SecD p w wr s2 (fun k => (MM k).drop ((MM k).length - 1)) nv' nv' (m + 1 + 1) F9) ∧ Hid (MayD w wr F9 gm 12 R (MK MM q))) (fun i _ => 12 - (intOf i).toNat)
                  case atStart => exact ⟨0, R', by omega, rfl, HSD9.out, by rw [MK_zero]; exact HMD9.out⟩
                  case round =>
                    obtain ⟨q, R2, hq, rfl, HS, HM⟩ := hrel
                    clear HSD9 HMD9
                    by_cases hq12 : q < 12
                    · have hi1 : (q : Int) < 12 := by omega
                      have hi2 : (0 : Int) ≤ (q : Int) := by omega
                      have hrow := HM.out.may.row q hq12
                      rw [MK_at] at hrow
                      have hcell := HM.out.may.cell q hq12 hq12
                      rw [MK_at] at hcell
                      have hfr := HM.out.may.blk.frozen q
                      have hgl : gm < wr.heap.size := HM.out.may.blk.lt
                      obtain ⟨t, hLt, hw64, hwi, hL2, hL3, hL4⟩ := last_facts hrow (HLj.out q) hk50
                      have hlast := hrow.last
                      have hlen1 : ((MM q).drop ((MM q).length - 1)).length = 1 := by rw [List.length_drop, hLt, Nat.add_sub_cancel, Nat.add_sub_cancel_left]
                      have hbd : Below wr.heap.size wr wr.drew := (Below.refl _ _).drew
                      have hlast' := hlast.only (Only.of_below hbd : Only (fun _ => False) _ _) id
                      have hpd := put_done HS.out HM.out hbd hq12 hlast' (Only.refl _ _) (.inl rfl)
                      rw [hlen1, MK_succ] at hpd
                      rw [hLt, Nat.add_sub_cancel] at hpd
                      rw [hLt] at hcell
                      unfold rowV at hcell hpd
                      simp only at hcell hpd
                      have HPd := Lib.hid hpd
                      generalize (R2 q).b = rb at *
                      generalize (R2 q).o = ro at *
                      generalize (R2 q).c = rc at *
                      clear hrow hlast hlast' hbd hlen1 hpd hLt
                      go_upto_region 28 with fail
                      have hq1 : q + 1 ≤ 12 := hq12
                      have hq0 : ((q : Int) + 1).toNat = q + 1 := by omega
                      go_still_tail 14, (by kernel_rfl)
                      change wpList _ _ _ _ _ wr.drew
                      go_wp2_with fail
                      go_roundw
                      case rel => exact ⟨q + 1, _, hq1, by go_num, HPd.out.1, HPd.out.2⟩
                      case measure => simp only [intOf, hq0, Int.toNat_natCast]; omega
                    · have hq12' : q = 12 := Nat.le_antisymm hq (Nat.le_of_not_lt hq12)
                      have hiq : (12 : Int) ≤ (q : Int) := by omega
                      rw [hq12'] at HM
                      have hsl := HS.out.like (M' := MK MM 12) fun k hk => by unfold MK; rw [if_pos hk]
                      have HSl := Lib.hid hsl
                      have HLk := Lib.hid (MK_len HLj.out 12)
                      clear hsl hq12' HS
                      go_wp2_with fail
                      go_roundw
                      case rel => exact ⟨k + 1, s2, MK MM 12, nv', nv', m + 1 + 1, F9, R2, by omega, by omega, by go_num, by omega, HSl.out, HM.out, HLk.out⟩
                      case measure => simp [intOf]; omega
          · have hi4 : (40 : Int) ≤ (k : Int) := by omega
            have hi : (k : Int) < (l.length : Int) := by omega
            clear hlt
            have HEnd : Hid (∃ (s : RD) (M : Nat → List UInt8) (sv nv : List UInt8) (m : Nat) (F : Nat → Prop) (R : Nat → Rw), m ≤ 80 ∧ SecD p w wo s M sv nv m F ∧ MayD w wo F gm 12 R M ∧ ∀ j, (M j).length ≤ 50) := Lib.hid ⟨s, M, sv, nv, m, F, R, by omega, HS.out, HM.out, fun j => Nat.le_trans (HLn.out j) (by omega)⟩
            clear HS HM HLn hm hk hk40 HC
            obtain ⟨s, M, sv, nv, m, F, R, hm, hS, hM, hLn⟩ := HEnd.out
            have HCr := Lib.hid (sec_crash hS hM hm pk Aq cq hpk HPi.out HRp.out)
            have HLn := Lib.hid hLn
            clear hS hM hm hLn HEnd
            go_upto_region 30 with (first
              | (go_at_call 17; refine HCr.out.mono ?_; rintro e w2 ⟨rfl, hcr⟩; have HC2 := Lib.hid hcr; clear hcr)
              | fail)
            obtain ⟨F2, v', hv12, hvM, hwl, hrd, hsz, hd2, hb2, hfr2, hlt2, hm2⟩ := HC2.out
            clear HCr HC2
            have hre := disk_read nmA 0 768 hd2 hwl (by decide) (by omega) (by omega)
            rw [hrd] at hre
            have hsl : (secs v').length = 768 := by rw [secs_length, hv12]
            have HRe : Hid (Calls Try.prog 18 #[.pointer (some ⟨p, 0, none⟩), .string nmA, .int .i64 0, .int .i64 768] w2 fun e w' => ∃ b off c, e = .returned (.tuple #[.slice (some ⟨b, off, none⟩) 768 c, .int .i64 0]) ∧ 768 ≤ c ∧ Reads w' w'.heap.size 1 (some ⟨b, off, none⟩) 768 (bv (secs v')) ∧ Below w2.heap.size w2 w') := Lib.hid (by
              refine Calls.mono hre ?_
              rintro e w' ⟨v, rfl, ho, hb⟩
              obtain ⟨A, c, rfl, h1, -, h2, -⟩ := own_form ho
              rw [hsl] at h1 h2
              obtain ⟨b, off, rfl, -, -⟩ := h2.form (by omega)
              exact ⟨b, off, c, by rw [hsl]; rfl, h1, h2, hb⟩)
            have HSz : Hid (∀ W, Below w2.heap.size w2 W → Calls Try.prog 19 #[.pointer (some ⟨p, 0, none⟩), .string nmA] W fun e w' => e = .returned (.int .i64 768) ∧ Below W.heap.size W w') := Lib.hid (fun W hb => by
              have h1 := disk_size nmA (hd2.only (Only.of_below hb : Only (fun _ => False) w2 W) fun _ _ => id) hwl (by decide)
              rw [hsz] at h1
              exact h1)
            have HM2 := Lib.hid hm2
            have HB2 := Lib.hid hb2
            have HV := Lib.hid (And.intro hv12 hvM)
            clear hre hsl hrd hsz hd2 hwl hb2 hfr2 hlt2 hm2 hv12 hvM HPi HRp hpk
            go_wp2_with (first
              | (go_at_call 18; refine HRe.out.mono ?_; rintro e w3 ⟨gb, ob, cb, rfl, hcb, hr3, hb3⟩; have HR3 := Lib.hid hr3; have HB3 := Lib.hid hb3; clear hr3 hb3)
              | (go_at_call 19; refine (HSz.out w3 HB3.out).mono ?_; rintro e w4 ⟨rfl, hb4⟩; have HB4 := Lib.hid hb4; clear hb4)
              | fail)
            have HR4 := Lib.hid (HR3.out.over HB4.out)
            have HB24 := Lib.hid (HB3.out.trans (HB4.out.mono HB3.out.size))
            have HM4 := Lib.hid (HM2.out.below HB24.out)
            have HB04 := Lib.hid (HB2.out.trans (HB24.out.mono HB2.out.size))
            have HCb := Lib.hid hcb
            have HR5 := Lib.hid (HR4.out.more HB4.out.size)
            clear hcb HRe HSz HM2 HB2 HR3 HB3 HB4 HR4 HB24
            go_loopw [16] (fun i wr => ∃ q : Nat, q ≤ 12 ∧ i = .int .i64 q ∧ Hid (Below w4.heap.size w4 wr)) (fun i _ => 12 - (intOf i).toNat)
            case atStart => exact ⟨0, by omega, rfl, Below.refl _ _⟩
            case round =>
              obtain ⟨wp, rfl⟩ : ∃ wp : World, wp = wr := ⟨_, rfl⟩
              obtain ⟨q, hq, rfl, HBq⟩ := hrel
              by_cases hq12 : q < 12
              · have hi1 : (q : Int) < 12 := by omega
                have hi2 : (0 : Int) ≤ (q : Int) := by omega
                obtain ⟨Q, hQ, hwA, hwB, hs0, hs1, hs2, hs5⟩ := sec_facts hq12 HCb.out
                have HQ64 := Lib.hid hQ
                clear hQ
                have hx := HV.out.2 q hq12
                have hLq := HLn.out q
                have HX := Lib.hid hx
                clear hx
                have HVl := Lib.hid HV.out.1
                have HQ := Lib.hid hq12
                go_wp2_with fail
                go_loopw [17, 18] (fun met i wr => ∃ (t : Nat) (g : Bool), t ≤ (M q).length ∧ i = .int .i64 t ∧ met = .bool g ∧ Hid (v'.getD q 0 ∈ (M q).take t → g = true) ∧ Hid (Below w4.heap.size w4 wr)) (fun _ i _ => (M q).length - (intOf i).toNat)
                case atStart => exact ⟨0, false, Nat.zero_le _, rfl, rfl, fun h => by simp at h, HBq.out⟩
                case round =>
                  obtain ⟨t, g, ht, rfl, rfl, HG, HB⟩ := hrel
                  have hmw := HM4.out.below HB.out
                  have hcell := hmw.cell q HQ.out HQ.out
                  have hrow := hmw.row q HQ.out
                  have hpos := hrow.pos
                  have hgl : gm < wr.heap.size := hmw.blk.lt
                  by_cases htl : t < (M q).length
                  · have hj1 : (t : Int) < ((M q).length : Int) := by omega
                    have hj2 : (0 : Int) ≤ (t : Int) := by omega
                    have hrc := hrow.cell t htl
                    have hst := take_step htl HG.out
                    have hfs := fun (W : World) (hb : Below wr.heap.size wr W) => full_same (W := W) ((M q)[t]) HVl.out HQ.out HR5.out (HB.out.trans (hb.mono HB.out.size))
                    rw [← HQ64.out] at hfs
                    have HFs := Lib.hid hfs
                    have HSt := Lib.hid hst
                    have ht1 : t + 1 ≤ (M q).length := htl
                    generalize (M q)[t] = y at *
                    generalize hRq : R q = r at *
                    obtain ⟨rb, ro, rc⟩ := r
                    unfold rowV at hcell
                    simp only at hcell hrc
                    have hrl : rb < wr.heap.size := hrow.lt
                    clear hmw hrow hfs hst HG hRq
                    cases g with
                    | true =>
                      go_wp2_with fail
                      go_quiet (fail)
                      go_wp2_with fail
                      go_roundw
                      case rel => exact ⟨t + 1, true, ht1, by go_num, rfl, fun _ => rfl, below_drewN HB.out _⟩
                      case measure => simp [intOf]; omega
                    | false =>
                      have B0 := Lib.hid ((Below.refl wr.heap.size wr).drew)
                      go_wp2_with fail
                      go_region_held3 (fun w' => Below wr.heap.size wr w' ∧ w'.cell? ⟨gm, q, none⟩ = some (.slice (some ⟨rb, ro, none⟩) (M q).length rc) ∧ w'.cell? ⟨rb, ro + t, none⟩ = some (.int .u8 (y.toNat : Int)))
                        (first
                          | exact ⟨b9, (b9.cell (p := ⟨gm, q, none⟩) hgl).trans hcell, (b9.cell (p := ⟨rb, ro + t, none⟩) hrl).trans hrc⟩
                          | exact ⟨b8, (b8.cell (p := ⟨gm, q, none⟩) hgl).trans hcell, (b8.cell (p := ⟨rb, ro + t, none⟩) hrl).trans hrc⟩
                          | exact ⟨B0.out, hcell, hrc⟩
                          | go_keep)
                        (first
                          | (go_at_call 20; rw [win64]; refine (HS8.out _).mono ?_; rintro e w9 ⟨rfl, hb9⟩; have b9 := b8.trans (hb9.mono b8.size))
                          | (go_at_call 13; refine (HFs.out _ B0.out).mono ?_; rintro e w8 ⟨A8, c8, rfl, hs8, hb8⟩; have HS8 := Lib.hid hs8; have b8 := B0.out.trans (hb8.mono B0.out.size))
                          | fail)
                      all_goals
                        go_wp2_with fail
                        go_roundw
                        case rel => exact ⟨t + 1, _, ht1, by go_num, rfl, HSt.out, HB.out.trans (b9.mono HB.out.size)⟩
                        case measure => simp [intOf]; omega
                  · have hte : t = (M q).length := Nat.le_antisymm ht (Nat.le_of_not_lt htl)
                    have hj1 : ((M q).length : Int) ≤ (t : Int) := by omega
                    have hg : g = true := HG.out (by rw [hte, List.take_length]; exact HX.out)
                    subst hg
                    have hq1 : q + 1 ≤ 12 := HQ.out
                    generalize hRq : R q = r at *
                    obtain ⟨rb, ro, rc⟩ := r
                    unfold rowV at hcell
                    simp only at hcell
                    clear hmw hrow hte htl HG hRq ht
                    go_wp2_with fail
                    go_roundw
                    case rel => exact ⟨q + 1, hq1, by go_num, HB.out⟩
                    case measure => simp [intOf]; omega
              · have hi1 : (12 : Int) ≤ (q : Int) := by omega
                go_wp2_with fail
                go_ret
                exact ⟨rfl, HB04.out.trans (HBq.out.mono HB04.out.size)⟩
        · have hi : (l.length : Int) ≤ (k : Int) := by omega
          clear hlt
          have HEnd : Hid (∃ (s : RD) (M : Nat → List UInt8) (sv nv : List UInt8) (m : Nat) (F : Nat → Prop) (R : Nat → Rw), m ≤ 80 ∧ SecD p w wo s M sv nv m F ∧ MayD w wo F gm 12 R M ∧ ∀ j, (M j).length ≤ 50) := Lib.hid ⟨s, M, sv, nv, m, F, R, by omega, HS.out, HM.out, fun j => Nat.le_trans (HLn.out j) (by omega)⟩
          clear HS HM HLn hm hk hk40 HC
          obtain ⟨s, M, sv, nv, m, F, R, hm, hS, hM, hLn⟩ := HEnd.out
          have HCr := Lib.hid (sec_crash hS hM hm pk Aq cq hpk HPi.out HRp.out)
          have HLn := Lib.hid hLn
          clear hS hM hm hLn HEnd
          go_upto_region 30 with (first
            | (go_at_call 17; refine HCr.out.mono ?_; rintro e w2 ⟨rfl, hcr⟩; have HC2 := Lib.hid hcr; clear hcr)
            | fail)
          obtain ⟨F2, v', hv12, hvM, hwl, hrd, hsz, hd2, hb2, hfr2, hlt2, hm2⟩ := HC2.out
          clear HCr HC2
          have hre := disk_read nmA 0 768 hd2 hwl (by decide) (by omega) (by omega)
          rw [hrd] at hre
          have hsl : (secs v').length = 768 := by rw [secs_length, hv12]
          have HRe : Hid (Calls Try.prog 18 #[.pointer (some ⟨p, 0, none⟩), .string nmA, .int .i64 0, .int .i64 768] w2 fun e w' => ∃ b off c, e = .returned (.tuple #[.slice (some ⟨b, off, none⟩) 768 c, .int .i64 0]) ∧ 768 ≤ c ∧ Reads w' w'.heap.size 1 (some ⟨b, off, none⟩) 768 (bv (secs v')) ∧ Below w2.heap.size w2 w') := Lib.hid (by
            refine Calls.mono hre ?_
            rintro e w' ⟨v, rfl, ho, hb⟩
            obtain ⟨A, c, rfl, h1, -, h2, -⟩ := own_form ho
            rw [hsl] at h1 h2
            obtain ⟨b, off, rfl, -, -⟩ := h2.form (by omega)
            exact ⟨b, off, c, by rw [hsl]; rfl, h1, h2, hb⟩)
          have HSz : Hid (∀ W, Below w2.heap.size w2 W → Calls Try.prog 19 #[.pointer (some ⟨p, 0, none⟩), .string nmA] W fun e w' => e = .returned (.int .i64 768) ∧ Below W.heap.size W w') := Lib.hid (fun W hb => by
            have h1 := disk_size nmA (hd2.only (Only.of_below hb : Only (fun _ => False) w2 W) fun _ _ => id) hwl (by decide)
            rw [hsz] at h1
            exact h1)
          have HM2 := Lib.hid hm2
          have HB2 := Lib.hid hb2
          have HV := Lib.hid (And.intro hv12 hvM)
          clear hre hsl hrd hsz hd2 hwl hb2 hfr2 hlt2 hm2 hv12 hvM HPi HRp hpk
          go_wp2_with (first
            | (go_at_call 18; refine HRe.out.mono ?_; rintro e w3 ⟨gb, ob, cb, rfl, hcb, hr3, hb3⟩; have HR3 := Lib.hid hr3; have HB3 := Lib.hid hb3; clear hr3 hb3)
            | (go_at_call 19; refine (HSz.out w3 HB3.out).mono ?_; rintro e w4 ⟨rfl, hb4⟩; have HB4 := Lib.hid hb4; clear hb4)
            | fail)
          have HR4 := Lib.hid (HR3.out.over HB4.out)
          have HB24 := Lib.hid (HB3.out.trans (HB4.out.mono HB3.out.size))
          have HM4 := Lib.hid (HM2.out.below HB24.out)
          have HB04 := Lib.hid (HB2.out.trans (HB24.out.mono HB2.out.size))
          have HCb := Lib.hid hcb
          have HR5 := Lib.hid (HR4.out.more HB4.out.size)
          clear hcb HRe HSz HM2 HB2 HR3 HB3 HB4 HR4 HB24
          go_loopw [16] (fun i wr => ∃ q : Nat, q ≤ 12 ∧ i = .int .i64 q ∧ Hid (Below w4.heap.size w4 wr)) (fun i _ => 12 - (intOf i).toNat)
          case atStart => exact ⟨0, by omega, rfl, Below.refl _ _⟩
          case round =>
            obtain ⟨wp, rfl⟩ : ∃ wp : World, wp = wr := ⟨_, rfl⟩
            obtain ⟨q, hq, rfl, HBq⟩ := hrel
            by_cases hq12 : q < 12
            · have hi1 : (q : Int) < 12 := by omega
              have hi2 : (0 : Int) ≤ (q : Int) := by omega
              obtain ⟨Q, hQ, hwA, hwB, hs0, hs1, hs2, hs5⟩ := sec_facts hq12 HCb.out
              have HQ64 := Lib.hid hQ
              clear hQ
              have hx := HV.out.2 q hq12
              have hLq := HLn.out q
              have HX := Lib.hid hx
              clear hx
              have HVl := Lib.hid HV.out.1
              have HQ := Lib.hid hq12
              go_wp2_with fail
              go_loopw [17, 18] (fun met i wr => ∃ (t : Nat) (g : Bool), t ≤ (M q).length ∧ i = .int .i64 t ∧ met = .bool g ∧ Hid (v'.getD q 0 ∈ (M q).take t → g = true) ∧ Hid (Below w4.heap.size w4 wr)) (fun _ i _ => (M q).length - (intOf i).toNat)
              case atStart => exact ⟨0, false, Nat.zero_le _, rfl, rfl, fun h => by simp at h, HBq.out⟩
              case round =>
                obtain ⟨t, g, ht, rfl, rfl, HG, HB⟩ := hrel
                have hmw := HM4.out.below HB.out
                have hcell := hmw.cell q HQ.out HQ.out
                have hrow := hmw.row q HQ.out
                have hpos := hrow.pos
                have hgl : gm < wr.heap.size := hmw.blk.lt
                by_cases htl : t < (M q).length
                · have hj1 : (t : Int) < ((M q).length : Int) := by omega
                  have hj2 : (0 : Int) ≤ (t : Int) := by omega
                  have hrc := hrow.cell t htl
                  have hst := take_step htl HG.out
                  have hfs := fun (W : World) (hb : Below wr.heap.size wr W) => full_same (W := W) ((M q)[t]) HVl.out HQ.out HR5.out (HB.out.trans (hb.mono HB.out.size))
                  rw [← HQ64.out] at hfs
                  have HFs := Lib.hid hfs
                  have HSt := Lib.hid hst
                  have ht1 : t + 1 ≤ (M q).length := htl
                  generalize (M q)[t] = y at *
                  generalize hRq : R q = r at *
                  obtain ⟨rb, ro, rc⟩ := r
                  unfold rowV at hcell
                  simp only at hcell hrc
                  have hrl : rb < wr.heap.size := hrow.lt
                  clear hmw hrow hfs hst HG hRq
                  cases g with
                  | true =>
                    go_wp2_with fail
                    go_quiet (fail)
                    go_wp2_with fail
                    go_roundw
                    case rel => exact ⟨t + 1, true, ht1, by go_num, rfl, fun _ => rfl, below_drewN HB.out _⟩
                    case measure => simp [intOf]; omega
                  | false =>
                    have B0 := Lib.hid ((Below.refl wr.heap.size wr).drew)
                    go_wp2_with fail
                    go_region_held3 (fun w' => Below wr.heap.size wr w' ∧ w'.cell? ⟨gm, q, none⟩ = some (.slice (some ⟨rb, ro, none⟩) (M q).length rc) ∧ w'.cell? ⟨rb, ro + t, none⟩ = some (.int .u8 (y.toNat : Int)))
                      (first
                        | exact ⟨b9, (b9.cell (p := ⟨gm, q, none⟩) hgl).trans hcell, (b9.cell (p := ⟨rb, ro + t, none⟩) hrl).trans hrc⟩
                        | exact ⟨b8, (b8.cell (p := ⟨gm, q, none⟩) hgl).trans hcell, (b8.cell (p := ⟨rb, ro + t, none⟩) hrl).trans hrc⟩
                        | exact ⟨B0.out, hcell, hrc⟩
                        | go_keep)
                      (first
                        | (go_at_call 20; rw [win64]; refine (HS8.out _).mono ?_; rintro e w9 ⟨rfl, hb9⟩; have b9 := b8.trans (hb9.mono b8.size))
                        | (go_at_call 13; refine (HFs.out _ B0.out).mono ?_; rintro e w8 ⟨A8, c8, rfl, hs8, hb8⟩; have HS8 := Lib.hid hs8; have b8 := B0.out.trans (hb8.mono B0.out.size))
                        | fail)
                    all_goals
                      go_wp2_with fail
                      go_roundw
                      case rel => exact ⟨t + 1, _, ht1, by go_num, rfl, HSt.out, HB.out.trans (b9.mono HB.out.size)⟩
                      case measure => simp [intOf]; omega
                · have hte : t = (M q).length := Nat.le_antisymm ht (Nat.le_of_not_lt htl)
                  have hj1 : ((M q).length : Int) ≤ (t : Int) := by omega
                  have hg : g = true := HG.out (by rw [hte, List.take_length]; exact HX.out)
                  subst hg
                  have hq1 : q + 1 ≤ 12 := HQ.out
                  generalize hRq : R q = r at *
                  obtain ⟨rb, ro, rc⟩ := r
                  unfold rowV at hcell
                  simp only at hcell
                  clear hmw hrow hte htl HG hRq ht
                  go_wp2_with fail
                  go_roundw
                  case rel => exact ⟨q + 1, hq1, by go_num, HB.out⟩
                  case measure => simp [intOf]; omega
            · have hi1 : (12 : Int) ≤ (q : Int) := by omega
              go_wp2_with fail
              go_ret
              exact ⟨rfl, HB04.out.trans (HBq.out.mono HB04.out.size)⟩
end Go.Proofs.Ytoihkanneiknkaa
