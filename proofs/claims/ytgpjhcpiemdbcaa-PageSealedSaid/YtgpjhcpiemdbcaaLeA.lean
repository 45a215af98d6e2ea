/- Contracts of le.isWidth and le.Bytes: for every n and width the answer is the one that the document gives, in new memory, and nothing that was there changes. Conditions: an int is at most 2^63 - 1. -/
import Derived.Test.YtgpjhcpiemdbcaaProg
import Derived.Test.YtgpjhcpiemdbcaaMath
import Derived.WalkKit
import Derived.WalkSpells
import Derived.WalkLawsBesides
import Derived.Deep.LoopGhost
import Derived.Laws.MakeOwn
import Derived.Lib.Hide
namespace Go.Proofs.Ytgpjhcpiemdbcaa
open Go.RowKit

theorem isWidth_yes (n : Int) (w : World) (h1 : 1 ≤ n) (h2 : n ≤ 8) :
    Calls Try.prog 31 #[.int .i64 n] w fun e w' => e = .returned (.bool true) ∧ w = w' := by
  go_enter Try.func31, Try.ntmps31
  go_wp2
  go_ret
  exact ⟨rfl, rfl⟩
theorem isWidth_no (n : Int) (w : World) (h : ¬ (1 ≤ n ∧ n ≤ 8)) :
    Calls Try.prog 31 #[.int .i64 n] w fun e w' => e = .returned (.bool false) ∧ w = w' := by
  by_cases h1 : 1 ≤ n
  · have h2 : ¬ n ≤ 8 := by omega
    go_enter Try.func31, Try.ntmps31
    go_wp2
    go_ret
    exact ⟨rfl, rfl⟩
  · go_enter Try.func31, Try.ntmps31
    go_wp2
    go_ret
    exact ⟨rfl, rfl⟩

theorem u8infoL : (Try.prog.info? 5).map (fun i => (i.zero, i.size, i.bytes)) = some (some (.int .u8 0), 1, 1) := by kernel_rfl

set_option maxHeartbeats 400000 in
theorem leBytes_arg (n width : Int) (w : World) (h : ¬ (1 ≤ width ∧ width ≤ 8) ∨ n < 0) :
    Calls Try.prog 28 #[.int .i64 n, .int .i64 width] w fun e w' => e = .returned (.tuple #[.slice none 0 0, .int .i64 1]) ∧ w = w' := by
  by_cases hw : 1 ≤ width ∧ width ≤ 8
  · have hn : n < 0 := by omega
    obtain ⟨h1, h2⟩ := hw
    clear h
    go_enter Try.func28, Try.ntmps28
    go_wp2_with (go_at_call 31; refine (isWidth_yes _ _ h1 h2).mono ?_; rintro e w' ⟨rfl, rfl⟩)
    go_ret2
    exact ⟨rfl, rfl⟩
  · clear h
    go_enter Try.func28, Try.ntmps28
    go_wp2_with (go_at_call 31; refine (isWidth_no _ _ hw).mono ?_; rintro e w' ⟨rfl, rfl⟩)
    go_ret2
    exact ⟨rfl, rfl⟩

set_option maxHeartbeats 400000 in
theorem leBytes_ok (n width : Nat) (w : World) (h1 : 1 ≤ width) (h2 : width ≤ 8) (hn : n ≤ 9223372036854775807) :
    Calls Try.prog 28 #[.int .i64 n, .int .i64 width] w fun e w' => ∃ v, e = .returned (.tuple #[v, .int .i64 (mBytes n width).2]) ∧
      w'.ownsRow w.heap.size 5 1 v (mBytes n width).1.length (bv (mBytes n width).1) ∧ Below w.heap.size w w' := by
  have hmk := run_make_row' (P := Try.prog) 22 5 (.int .u8 0) 1 Try.underlying22 u8infoL rfl .i64 .i64 width (by omega) (by omega)
  go_enter Try.func28, Try.ntmps28
  go_wp2_with (go_at_call 31; refine (isWidth_yes _ _ (by omega) (by omega)).mono ?_; rintro e w' ⟨rfl, rfl⟩)
  go_loopw [0, 19] (fun nv i wr => ∃ k m : Nat, k ≤ width ∧ i = .int .i64 k ∧ nv = .int .i64 m ∧ m ≤ 9223372036854775807 ∧ Hid (m = n / 256 ^ k) ∧
      wr.rowIs w.heap.size 5 width (fun j => .int .u8 ((if j < k then dig n j else 0 : Nat) : Int)) ∧ Below w.heap.size w wr) (fun _ i _ => width - (intOf i).toNat)
  case atStart =>
    exact ⟨0, n, Nat.zero_le _, rfl, rfl, hn, by simp [Hid], by simpa using World.rowIs_made w (.int .u8 0) width 5, (Below.refl _ _).alloc (Nat.le_refl _) _⟩
  case round =>
    obtain ⟨k, m, hk, rfl, rfl, hm, hmk', hrow, hbel⟩ := hrel
    clear hmk
    by_cases hlt : k < width
    · have hc := hrow.cell hlt
      have hf := hrow.frozen k
      go_wp2
      go_roundw
      case rel =>
        have hdig : ((m : Int) % 256) = ((dig n k : Nat) : Int) := by rw [dig, ← hmk'.out]; rfl
        refine ⟨k + 1, m / 256, by omega, by go_num, by go_num, by omega, ?_, ?_, hbel.setCell (Nat.le_refl _) _⟩
        · show m / 256 = n / 256 ^ (k + 1)
          rw [hmk'.out, Nat.div_div_eq_div_mul, Nat.pow_succ]
        · rw [hdig]
          refine (hrow.set k _).congr fun j hj => ?_
          by_cases hjk : j = k
          · subst hjk
            rw [if_pos rfl, if_pos (by omega)]
          · rw [if_neg hjk]
            by_cases h3 : j < k
            · rw [if_pos h3, if_pos (by omega)]
            · rw [if_neg h3, if_neg (by omega)]
      case measure => simp [intOf]; omega
    · obtain rfl : k = width := by omega
      clear hlt
      by_cases hz : m = 0
      · subst hz
        have hlo : n < 256 ^ k := by
          have := hmk'.out
          exact (Nat.div_eq_zero_iff_lt (Nat.pow_pos (by omega))).1 this.symm
        have hb : mBytes n k = (digs n k, 0) := by
          unfold mBytes
          rw [if_neg (by omega), if_neg (by simp only [Int.toNat_natCast]; omega)]
          rfl
        have HB := Lib.hid hb
        clear hb
        go_wp2
        go_ret2
        rw [HB.out]
        refine ⟨.slice (some ⟨w.heap.size, 0, none⟩) k k, rfl, ?_, hbel⟩
        have := own_of_row (base := w.heap.size) hrow (Nat.le_refl _) (by unfold maxLen; omega) (xs := bv (digs n k)) (by rw [bv_length, digs_length]) (fun j hj => by rw [bv_digs_get n k j hj, if_pos hj])
        simpa only [digs_length] using this
      · have hlo : 256 ^ k ≤ n := by
          have := hmk'.out
          rcases Nat.lt_or_ge n (256 ^ k) with h | h
          · rw [Nat.div_eq_of_lt h] at this
            omega
          · exact h
        have hb : mBytes n k = ([], 2) := by
          unfold mBytes
          rw [if_neg (by omega), if_pos (by simp only [Int.toNat_natCast]; omega)]
        have HB := Lib.hid hb
        clear hb
        have hm0 : ((m : Int) != 0) = true := by rw [bne_iff_ne]; omega
        go_wp2
        go_ret2
        rw [HB.out]
        exact ⟨_, rfl, ⟨by simp [bv], .inl ⟨rfl, rfl⟩⟩, hbel⟩

/-- le.Bytes: for every n and width the document's answer, the bytes in new memory. -/
theorem leBytes_any (n width : Int) (w : World) (hn : n ≤ 9223372036854775807) :
    Calls Try.prog 28 #[.int .i64 n, .int .i64 width] w fun e w' => ∃ v, e = .returned (.tuple #[v, .int .i64 (mBytes n width).2]) ∧
      w'.ownsRow w.heap.size 5 1 v (mBytes n width).1.length (bv (mBytes n width).1) ∧ Below w.heap.size w w' := by
  by_cases h : ¬ (1 ≤ width ∧ width ≤ 8) ∨ n < 0
  · refine (leBytes_arg n width w h).mono fun e w' ⟨he, hw⟩ => ?_
    subst hw
    have hb : mBytes n width = ([], 1) := by unfold mBytes; rw [if_pos h]
    rw [hb]
    exact ⟨_, he, ⟨by simp [bv], .inl ⟨rfl, rfl⟩⟩, Below.refl _ _⟩
  · obtain ⟨n', rfl⟩ := Int.eq_ofNat_of_zero_le (show 0 ≤ n by omega)
    obtain ⟨k, rfl⟩ := Int.eq_ofNat_of_zero_le (show 0 ≤ width by omega)
    exact leBytes_ok n' k w (by omega) (by omega) (by omega)
end Go.Proofs.Ytgpjhcpiemdbcaa
