/- Contracts of page.isNumber, isKind, setInt, sum, int and laid. Conditions: the page's bytes are in a block of their own; a number has room where it is laid. -/
import Derived.Test.YtgpjhcpiemdbcaaPgW
import Derived.Test.YtgpjhcpiemdbcaaLeA
import Derived.Test.YtgpjhcpiemdbcaaLeC
import Derived.Test.YtgpjhcpiemdbcaaCrcP
import Derived.Outline
import Derived.Deep.DrawnRows
import Derived.Deep.CutRange
import Derived.Deep.CutBlock
namespace Go.Proofs.Ytgpjhcpiemdbcaa
open Go.RowKit
attribute [local go_sem ↓] Go.wp_at_zero Go.wp_at_succ

theorem isNumber_any (n : Int) (w : World) : Calls Try.prog 20 #[.int .i64 n] w fun e w' => e = .returned (.bool (decide (pgNo n))) ∧ w = w' := by
  by_cases h0 : 0 ≤ n
  · by_cases h1 : n < 1048576
    · have e : decide (pgNo n) = true := decide_eq_true ⟨h0, h1⟩
      rw [e]
      go_enter Try.func20, Try.ntmps20
      go_wp2
      go_ret
      exact ⟨rfl, rfl⟩
    · have e : decide (pgNo n) = false := decide_eq_false fun h => h1 h.2
      rw [e]
      go_enter Try.func20, Try.ntmps20
      go_wp2
      go_ret
      exact ⟨rfl, rfl⟩
  · have e : decide (pgNo n) = false := decide_eq_false fun h => h0 h.1
    rw [e]
    go_enter Try.func20, Try.ntmps20
    go_wp2
    go_ret
    exact ⟨rfl, rfl⟩
theorem isKind_any (n : Int) (w : World) : Calls Try.prog 21 #[.int .i64 n] w fun e w' => e = .returned (.bool (decide (pgKind n))) ∧ w = w' := by
  by_cases h0 : 1 ≤ n
  · by_cases h1 : n ≤ 9
    · have e : decide (pgKind n) = true := decide_eq_true ⟨h0, h1⟩
      rw [e]
      go_enter Try.func21, Try.ntmps21
      go_wp2
      go_ret
      exact ⟨rfl, rfl⟩
    · have e : decide (pgKind n) = false := decide_eq_false fun h => h1 h.2
      rw [e]
      go_enter Try.func21, Try.ntmps21
      go_wp2
      go_ret
      exact ⟨rfl, rfl⟩
  · have e : decide (pgKind n) = false := decide_eq_false fun h => h0 h.1
    rw [e]
    go_enter Try.func21, Try.ntmps21
    go_wp2
    go_ret
    exact ⟨rfl, rfl⟩

theorem size_u8 : (Try.prog.info? 5).map (·.size) = some 1 := by kernel_rfl
theorem reads_src {w : World} {B n : Nat} {A : Option Addr} {xs : List Value} (h : Reads w B 1 A n xs) (hn : 0 < n) : ∃ ad, A = some ad ∧ ∀ j v, xs[j]? = some v → w.cell? (ad.add j) = some v := by
  obtain ⟨_, h2⟩ := h
  obtain ⟨ad, e, _, hc⟩ := h2 (by omega)
  exact ⟨ad, e, hc⟩
def PgTo (g : Nat) (t : TypeId) (l : List UInt8) (w : World) (e : Ending) (w' : World) : Prop := e = .returned (.tuple #[]) ∧ Blk w' g t (bv l).toArray ∧ Only (fun k => k = g) w w'
set_option maxHeartbeats 400000 in
theorem setInt_any (g fq tq n : Nat) (t : TypeId) (l : List UInt8) (w : World) (hb : Blk w g t (bv l).toArray) (hl : l.length = 256) (h1 : fq < tq) (h8 : tq ≤ fq + 8) (ht : tq ≤ 256) (hn : n < 256 ^ (tq - fq)) (hn' : n ≤ 9223372036854775807) :
    Calls Try.prog 23 #[.pointer (some ⟨g, 0, none⟩), .int .i64 (fq : Int), .int .i64 (tq : Int), .int .i64 (n : Int)] w fun e w' => PgTo g t (splice l fq (digs n (tq - fq))) w e w' := by
  obtain ⟨k, hk⟩ : ∃ k : Nat, k = tq - fq := ⟨_, rfl⟩
  have hle := leBytes_ok n k w (by omega) (by omega) hn'
  rw [← hk] at hn ⊢
  rw [mBytes_is' (M := (k : Int)) rfl (by omega) (by omega) (by omega) (by simpa using hn), Int.toNat_natCast, digs_length] at hle
  have hsub : (k : Int) = (tq : Int) - (fq : Int) := by omega
  rw [hsub] at hle
  have HLe := Lib.hid hle
  have hs0 : (0 : Int) ≤ (tq : Int) - (fq : Int) := by omega
  have hs1 : (tq : Int) - (fq : Int) ≤ 8 := by omega
  have hka : k + fq ≤ tq := by omega
  have hkb : tq ≤ k + fq := by omega
  have hlen : (bv (digs n k)).length = Nat.min k (tq - fq) := by rw [bv_length, digs_length]; show k = min k (tq - fq); omega
  have HLen := Lib.hid hlen
  clear hsub hk hlen
  have hf0 : (0 : Int) ≤ (fq : Int) := by omega
  have hft : (fq : Int) ≤ (tq : Int) := by omega
  have ht2 : (tq : Int) ≤ 256 := by omega
  clear hle
  go_enter Try.func23, Try.ntmps23
  go_wp2_with (first
    | (go_at_call 28; refine HLe.out.mono ?_; rintro e w1 ⟨v1, rfl, ho1, hb1⟩; obtain ⟨A1, c1, rfl, hc1, hm1, hr1, hA1⟩ := own_form ho1; have hblk := hb.below hb1 hb.lt; have HSrc := Lib.hid (reads_src hr1 (by omega)))
    | (with_reducible show wpList _ _ _ _ _ _; refine wpList_copy_blk rfl (.tmp 22) (.tmp 23) 22 22 rfl 5 Try.underlying22 size_u8 (some ⟨g, fq, none⟩) A1 (tq - fq) (256 - fq) k c1 rfl rfl g fq (bv l) t hblk (bv (digs n k)) HLen.out (fun _ => ⟨rfl, HSrc.out⟩) (by rw [bv_length, bv_length, digs_length]; omega) (bv_one _) ?_; intro w2 h2)
    | fail)
  go_end0
  rw [bv_splice] at h2
  exact ⟨rfl, h2.1, ((Only.of_below hb1).trans h2.2.1 fun _ _ => id)⟩
theorem setInt_at (F T : Int) (g fq tq n : Nat) (t : TypeId) (l : List UInt8) (w : World) (hF : F = (fq : Int)) (hT : T = (tq : Int)) (hb : Blk w g t (bv l).toArray) (hl : l.length = 256) (h1 : fq < tq) (h8 : tq ≤ fq + 8) (ht : tq ≤ 256) (hn : n < 256 ^ (tq - fq)) (hn' : n ≤ 9223372036854775807) :
    Calls Try.prog 23 #[.pointer (some ⟨g, 0, none⟩), .int .i64 F, .int .i64 T, .int .i64 (n : Int)] w fun e w' => PgTo g t (splice l fq (digs n (tq - fq))) w e w' := by
  subst hF hT
  exact setInt_any g fq tq n t l w hb hl h1 h8 ht hn hn'
theorem blk_part {w : World} {g : Nat} {t : TypeId} {l : List UInt8} (hb : Blk w g t (bv l).toArray) (a n : Nat) (h : a + n ≤ l.length) : Reads w w.heap.size 1 (some ⟨g, a, none⟩) (seg l a n).length (bv (seg l a n)) := by
  refine ⟨by rw [bv_length, Nat.mul_one], fun _ => ⟨_, rfl, hb.lt, fun j u hu => ?_⟩⟩
  have ha : (⟨g, a, none⟩ : Addr).add j = ⟨g, a + j, none⟩ := by unfold Addr.add; split <;> simp_all
  have hj : j < (seg l a n).length := by have := (List.getElem?_eq_some_iff.1 hu).1; rw [bv_length] at this; exact this
  rw [ha, hb.cell (a + j)]
  rw [seg_length l a n h] at hj
  rw [← hu]
  have e : (bv (seg l a n)) = ((bv l).drop a).take n := by unfold seg; simp only [bv, List.map_take, List.map_drop]
  rw [e, List.getElem?_take_of_lt hj, List.getElem?_drop]
  simp
theorem num_part_lt (l : List UInt8) (a n k : Nat) (hn : n ≤ k) (hl : a + n ≤ l.length) : num (seg l a n) < 256 ^ k := by
  have h1 := num_lt (seg l a n)
  rw [seg_length l a n hl] at h1
  exact Nat.lt_of_lt_of_le h1 (Nat.pow_le_pow_right (by omega) hn)
set_option maxHeartbeats 400000 in
theorem int_any (g fq tq : Nat) (t : TypeId) (l : List UInt8) (w : World) (hb : Blk w g t (bv l).toArray) (hl : l.length = 256) (h1 : fq < tq) (h4 : tq ≤ fq + 4) (ht : tq ≤ 256) :
    Calls Try.prog 25 #[.pointer (some ⟨g, 0, none⟩), .int .i64 (fq : Int), .int .i64 (tq : Int)] w fun e w' => e = .returned (.int .i64 (num (seg l fq (tq - fq)) : Int)) ∧ w = w' := by
  have hpl := seg_length l fq (tq - fq) (by omega)
  have hle := leInt_any (seg l fq (tq - fq)) (some ⟨g, fq, none⟩) w.heap.size (256 - fq) w (by rw [hpl]; unfold maxLen; omega) (blk_part hb fq (tq - fq) (by omega))
  have hlt := num_part_lt l fq (tq - fq) 4 (by omega) (by omega)
  have e : mInt (seg l fq (tq - fq)) = ((num (seg l fq (tq - fq)) : Int), 0) := by
    unfold mInt
    rw [hpl, if_neg (by omega), if_neg (by omega)]
  rw [e, hpl] at hle
  generalize num (seg l fq (tq - fq)) = v at *
  have HLe := Lib.hid hle
  have hf0 : (0 : Int) ≤ (fq : Int) := by omega
  have hft : (fq : Int) ≤ (tq : Int) := by omega
  have ht2 : (tq : Int) ≤ 256 := by omega
  clear hle hpl e
  go_enter Try.func25, Try.ntmps25
  go_wp2_with (first
    | (go_at_call 30; refine HLe.out.mono ?_; rintro e w1 ⟨rfl, rfl⟩)
    | fail)
  go_ret
  exact ⟨rfl, rfl⟩
theorem int_at (F T : Int) (g fq tq : Nat) (t : TypeId) (l : List UInt8) (w : World) (hF : F = (fq : Int)) (hT : T = (tq : Int)) (hb : Blk w g t (bv l).toArray) (hl : l.length = 256) (h1 : fq < tq) (h4 : tq ≤ fq + 4) (ht : tq ≤ 256) :
    Calls Try.prog 25 #[.pointer (some ⟨g, 0, none⟩), .int .i64 F, .int .i64 T] w fun e w' => e = .returned (.int .i64 (num (seg l fq (tq - fq)) : Int)) ∧ w = w' := by
  subst hF hT
  exact int_any g fq tq t l w hb hl h1 h4 ht
set_option maxHeartbeats 400000 in
theorem sum_any (g : Nat) (t : TypeId) (l : List UInt8) (w : World) (hb : Blk w g t (bv l).toArray) (hl : l.length = 256) :
    Calls Try.prog 24 #[.pointer (some ⟨g, 0, none⟩)] w fun e w' => e = .returned (.int .i64 (pgSum l : Int)) ∧ Below w.heap.size w w' := by
  have hp1 := seg_length l 0 8 (by omega)
  have hp2 := seg_length l 12 244 (by omega)
  have e1 : seg l 0 8 ++ seg l 12 244 = bare l := by
    unfold seg bare
    rw [List.drop_zero]
    congr 1
    exact List.take_of_length_le (by rw [List.length_drop]; omega)
  have hof : ∀ t', Calls Try.prog 29 #[.slice (some ⟨w.heap.size, 0, none⟩) 2 2] (w.alloc (.cells #[.slice (some ⟨g, 0, none⟩) 8 256, .slice (some ⟨g, 12, none⟩) 244 244] t')).drew fun e w' => e = .returned (.int .u32 (pgSum l : Int)) ∧ Below w.heap.size w w' := fun t' => by
    have hbW : Blk w.drew g t (bv l).toArray := hb
    have := of_twoB (seg l 0 8) (seg l 12 244) (some ⟨g, 0, none⟩) (some ⟨g, 12, none⟩) w.drew.heap.size w.drew.heap.size 256 244 w.drew.heap.size t' w.drew rfl (by rw [hp1]; omega) (by rw [hp2]; omega) (blk_part hbW 0 8 (by omega)) (blk_part hbW 12 244 (by omega))
    rw [hp1, hp2, e1] at this
    exact Calls.mono this fun e w' ⟨h1, h2⟩ => ⟨h1, h2.os, h2.tape, h2.output, h2.size, h2.block⟩
  have HOf := Lib.hid hof
  have hlt := pgSum_lt l
  generalize pgSum l = s at *
  have HW : Hid (IntKind.i64.wrap (s : Int) = (s : Int)) := Lib.hid (IntWalk.i64_in _ (by omega))
  clear hof hp1 hp2 e1
  go_enter Try.func24, Try.ntmps24
  go_wp2_with fail
  go_region_with (first
    | (go_at_call 29; refine (HOf.out _).mono ?_; rintro e w1 ⟨rfl, hb1⟩)
    | fail)
  go_wp2_with fail
  go_ret
  exact ⟨congrArg (fun v => Ending.returned (.int .i64 v)) HW.out, hb1⟩
theorem zero_page : (Try.prog.info? 46).map (fun i => (i.zero, i.size)) = some (some (.agg (bv zeroPage).toArray), 256) := by kernel_rfl
set_option maxRecDepth 100000 in
set_option maxHeartbeats 400000 in
theorem laid_any (no kind : Nat) (body : List UInt8) (A : Option Addr) (B c : Nat) (w : World) (hn : no < 1048576) (hk : kind < 256) (hb : body.length ≤ 244) (hr : Reads w B 1 A body.length (bv body)) :
    Calls Try.prog 22 #[.int .i64 (no : Int), .int .i64 (kind : Int), .slice A body.length c] w fun e w' => e = .returned (.agg (bv (laidL no kind body)).toArray) ∧ Below w.heap.size w w' := by
  obtain ⟨hz, hz2⟩ := zero_of_info zero_page
  have HZ2 := Lib.hid hz2
  have hst := laid_steps no kind body hb
  have hlz := zeroPage_length
  obtain ⟨w2, hw2⟩ : ∃ w2, w2 = (w.alloc (.cells (bv zeroPage).toArray 46)).alloc (.cells (bv zeroPage).toArray 46) := ⟨_, rfl⟩
  have hB0 : Blk w2 w.heap.size 46 (bv zeroPage).toArray := by rw [hw2]; exact (Blk.new w _ _).alloc _
  have hB1 : Blk w2 (w.heap.size + 1) 46 (bv zeroPage).toArray := by rw [hw2]; have := Blk.new (w.alloc (.cells (bv zeroPage).toArray 46)) 46 (bv zeroPage).toArray; simpa using this
  have hbel : Below w.heap.size w w2 := by rw [hw2]; exact ((Below.refl _ _).alloc (Nat.le_refl _) _).alloc (by simp) _
  have hl1 : (splice zeroPage 0 (digs kind 1)).length = 256 := by rw [splice_length _ _ _ (by rw [digs_length, hlz]; omega), hlz]
  have hl2 : (splice (splice zeroPage 0 (digs kind 1)) 2 (digs body.length 2)).length = 256 := by rw [splice_length _ _ _ (by rw [digs_length, hl1]; omega), hl1]
  have hl3 : (splice (splice (splice zeroPage 0 (digs kind 1)) 2 (digs body.length 2)) 4 (digs no 4)).length = 256 := by rw [splice_length _ _ _ (by rw [digs_length, hl2]; omega), hl2]
  have H1 := Lib.hid (setInt_at 0 1 (w.heap.size + 1) 0 1 kind 46 zeroPage w2 rfl rfl hB1 hlz (by omega) (by omega) (by omega) (by omega) (by omega))
  have H2 := Lib.hid (fun W hW => setInt_at 2 4 (w.heap.size + 1) 2 4 body.length 46 (splice zeroPage 0 (digs kind 1)) W rfl rfl hW hl1 (by omega) (by omega) (by omega) (by omega) (by omega))
  have H3 := Lib.hid (fun W hW => setInt_at 4 8 (w.heap.size + 1) 4 8 no 46 (splice (splice zeroPage 0 (digs kind 1)) 2 (digs body.length 2)) W rfl rfl hW hl2 (by omega) (by omega) (by omega) (by omega) (by omega))
  rw [← hst]
  have e0 : List.replicate 256 (0 : UInt8) = zeroPage := rfl
  rw [e0]
  generalize hm1 : splice zeroPage 0 (digs kind 1) = m1 at *
  generalize hm2 : splice m1 2 (digs body.length 2) = m2 at *
  generalize hm3 : splice m2 4 (digs no 4) = m3 at *
  have HB0 := Lib.hid hB0
  have HBel := Lib.hid hbel
  have HL3 := Lib.hid hl3
  have HR := Lib.hid hr
  have hsz : (bv body).length = Nat.min body.length 244 := by rw [bv_length]; show _ = min _ _; omega
  have HSz := Lib.hid hsz
  have HF : Hid (12 + (bv body).length ≤ (bv m3).length) := Lib.hid (by rw [bv_length, bv_length, hl3]; omega)
  have HS : Hid ((Try.prog.info? 46).map (·.size) = some (bv (splice m3 12 body)).toArray.size ∧ (bv zeroPage).toArray.size = (bv (splice m3 12 body)).toArray.size) := Lib.hid (by
    have hl4 : (splice m3 12 body).length = 256 := by rw [splice_length _ _ _ (by rw [hl3]; omega), hl3]
    rw [bv_size, bv_size, hl4, hlz]
    exact ⟨hz2, rfl⟩)
  clear hst hl1 hl2 hl3 hm1 hm2 hm3 hB0 hB1 hbel hz2 hr hsz e0 hlz
  go_enter Try.func22, Try.ntmps22
  go_upto_region 2 with fail
  rw [← hw2]
  clear hw2 hz
  go_upto_region 5 with (first
    | (go_at_call 23; refine (H3.out _ hb2).mono ?_; rintro e w5 ⟨rfl, hb3, ho3⟩)
    | (go_at_call 23; refine (H2.out _ hb1).mono ?_; rintro e w4 ⟨rfl, hb2, ho2⟩)
    | (go_at_call 23; refine H1.out.mono ?_; rintro e w3 ⟨rfl, hb1, ho1⟩)
    | fail)
  have hs2 : w.heap.size ≤ w2.heap.size := HBel.out.size
  have hb5 : Below w.heap.size w w5 := HBel.out.trans (((ho1.below (B := w.heap.size) (fun k hk => by omega) hs2).trans (ho2.below (B := w.heap.size) (fun k hk => by omega) (Nat.le_trans hs2 ho1.size))).trans (ho3.below (B := w.heap.size) (fun k hk => by omega) (Nat.le_trans hs2 (Nat.le_trans ho1.size ho2.size))))
  have hB5 : Blk w5 w.heap.size 46 (bv zeroPage).toArray := ((HB0.out.only ho1 (by omega)).only ho2 (by omega)).only ho3 (by omega)
  have hsrc : 0 < (bv body).length → (some (⟨w.heap.size + 1, 12, none⟩ : Addr)) = some ⟨w.heap.size + 1, 12, none⟩ ∧ ∃ ad, A = some ad ∧ ∀ j v, (bv body)[j]? = some v → w5.cell? (ad.add j) = some v := fun h0 => ⟨rfl, reads_src (HR.out.over hb5) (by rw [bv_length] at h0; exact h0)⟩
  have HSrc := Lib.hid hsrc
  have HB5 := Lib.hid hB5
  have Hb5 := Lib.hid hb5
  clear hsrc hB5 hb5 ho1 ho2 ho3 hb1 hb2
  go_wp2_with (first
    | (with_reducible show wpList _ _ _ _ _ _; refine wpList_copy_blk rfl (.tmp 15) (.tmp 16) 22 22 rfl 5 Try.underlying22 size_u8 _ A 244 244 body.length c rfl rfl (w.heap.size + 1) 12 (bv m3) 46 hb3 (bv body) HSz.out HSrc.out HF.out (bv_one _) ?_; intro w6 h6; rw [bv_splice] at h6; have H6 := Lib.hid h6.out; have HB6 := Lib.hid (HB5.out.only h6.out.2.1 (by omega)); clear h6)
    | fail)
  refine wp_load_row 46 (.tmp 7) rfl (w.heap.size + 1) rfl 46 (bv (splice m3 12 body)).toArray (0, 0) _ H6.out.1 Try.underlying46 rfl HS.out.1 ?_
  rename_i hgo
  refine hgo _ _ ?_
  refine wpList_store_blk rfl 46 (.tmp 6) (.tmp 18) rfl w.heap.size (bv (splice m3 12 body)).toArray rfl rfl 46 (bv zeroPage).toArray HB6.out HS.out.1 HS.out.2 (bv_all _) ?_
  intro w7 h7
  have H7 := Lib.hid h7.out
  clear h7 hgo
  go_wp2_with fail
  refine bodyPost_ret (v := .agg (bv (splice m3 12 body)).toArray) ?_ rfl ⟨rfl, ?_⟩
  · exact results_cell_row (p := 6) (ty := 46) rfl _ w7 w.heap.size 46 _ (0, 0) _ rfl H7.out.1 Try.underlying46 rfl HS.out.1
  · exact Hb5.out.trans ((H6.out.2.1.below (B := w.heap.size) (fun k hk => by omega) Hb5.out.size).trans (H7.out.2.1.below (B := w.heap.size) (fun k hk => by omega) (by rw [H6.out.2.2]; exact Hb5.out.size)))
end Go.Proofs.Ytgpjhcpiemdbcaa
