/- Contract of octavoref01.Bytes: the same answer as that of le.Bytes. Conditions: an int is at most 2^63 - 1. -/
import Derived.Test.YtgpjhcpiemdbcaaLeA
namespace Go.Proofs.Ytgpjhcpiemdbcaa
open Go.RowKit

set_option maxHeartbeats 400000 in
theorem refBytes_arg (n width : Int) (w : World) (h : ¬ (1 ≤ width ∧ width ≤ 8) ∨ n < 0) :
    Calls Try.prog 17 #[.int .i64 n, .int .i64 width] w fun e w' => e = .returned (.tuple #[.slice none 0 0, .int .i64 1]) ∧ w = w' := by
  by_cases hw : width < 1
  · clear h
    go_enter Try.func17, Try.ntmps17
    go_wp2
    go_ret2
    exact ⟨rfl, rfl⟩
  · by_cases hw8 : 8 < width
    · clear h
      go_enter Try.func17, Try.ntmps17
      go_wp2
      go_ret2
      exact ⟨rfl, rfl⟩
    · have hn : n < 0 := by omega
      clear h
      go_enter Try.func17, Try.ntmps17
      go_wp2
      go_ret2
      exact ⟨rfl, rfl⟩

set_option maxHeartbeats 400000 in
theorem refBytes_ok (n width : Nat) (w : World) (h1 : 1 ≤ width) (h2 : width ≤ 8) (hn : n ≤ 9223372036854775807) :
    Calls Try.prog 17 #[.int .i64 n, .int .i64 width] w fun e w' => ∃ v, e = .returned (.tuple #[v, .int .i64 (mBytes n width).2]) ∧
      w'.ownsRow w.heap.size 5 1 v (mBytes n width).1.length (bv (mBytes n width).1) ∧ Below w.heap.size w w' := by
  obtain ⟨i0, hi0, hz0, hz1, hz2⟩ := info_parts u8infoL
  go_enter Try.func17, Try.ntmps17
  go_wp2
  go_loopw [0, 6, 7] (fun nv v i wr => ∃ k m : Nat, k ≤ width ∧ i = .int .i64 k ∧ nv = .int .i64 m ∧ m ≤ 9223372036854775807 ∧ Hid (m = n / 256 ^ k) ∧
      wr.ownsRow w.heap.size 5 1 v k (bv (digs n k)) ∧ Below w.heap.size w wr) (fun _ _ i _ => width - (intOf i).toNat)
  case atStart =>
    exact ⟨0, n, Nat.zero_le _, rfl, rfl, hn, by simp [Hid], ⟨by simp [bv, digs], .inl ⟨rfl, rfl⟩⟩, Below.refl _ _⟩
  case round =>
    obtain ⟨k, m, hk, rfl, rfl, hm, hmk', hown, hbel⟩ := hrel
    by_cases hlt : k < width
    · have hbs := hbel.size
      go_wp2_with (at_builtin; refine wpList_append_own _ rfl _ _ 22 rfl w.heap.size 5 i0 (.int .u8 0) 1 1 Try.underlying22 hi0 hz0 hz1 hz2 rfl (by decide) _ _ _ rfl (hown.alloc _) ⟨wr.heap.size, 0, none⟩ 1 1 [.int .u8 (m % 256)] rfl rfl ?c1 ?c2 ?c3 ?c4 ?c5 ?_)
      case c1 => exact cell_one_new _ _ _
      case c2 => intro u hu; simp at hu; subst hu; rfl
      case c3 => unfold maxLen; omega
      case c4 => omega
      case c5 => simp; omega
      intro v' w1 hown' hgrow _
      go_wp2
      go_roundw
      case rel =>
        have hdig : ((m : Int) % 256) = ((dig n k : Nat) : Int) := by rw [dig, ← hmk'.out]; rfl
        rw [hdig, ← bv_digs_snoc] at hown'
        refine ⟨k + 1, m / 256, by omega, by go_num, by go_num, by omega, ?_, hown', (hbel.alloc (by omega) _).grown hgrow (by simp; omega) (own_ge hown)⟩
        show m / 256 = n / 256 ^ (k + 1)
        rw [hmk'.out, Nat.div_div_eq_div_mul, Nat.pow_succ]
      case measure => simp [intOf]; omega
    · obtain rfl : k = width := by omega
      clear hlt
      by_cases hz : m = 0
      · subst hz
        have hlo : n < 256 ^ k := by
          have := hmk'.out
          exact (Nat.div_eq_zero_iff_lt (Nat.pow_pos (by omega))).1 this.symm
        have hb : mBytes n k = (digs n k, 0) := by
          unfold mBytes
          rw [if_neg (by omega), if_neg (by simp only [Int.toNat_natCast]; omega)]
          rfl
        have HB := Lib.hid hb
        clear hb
        go_wp2
        go_ret2
        rw [HB.out]
        exact ⟨u6, rfl, by simpa only [digs_length] using hown, hbel⟩
      · have hlo : 256 ^ k ≤ n := by
          have := hmk'.out
          rcases Nat.lt_or_ge n (256 ^ k) with h | h
          · rw [Nat.div_eq_of_lt h] at this
            omega
          · exact h
        have hb : mBytes n k = ([], 2) := by
          unfold mBytes
          rw [if_neg (by omega), if_pos (by simp only [Int.toNat_natCast]; omega)]
        have HB := Lib.hid hb
        clear hb
        have hm0 : ((m : Int) != 0) = true := by rw [bne_iff_ne]; omega
        go_wp2
        go_ret2
        rw [HB.out]
        exact ⟨_, rfl, own_nil _ _ _ _, hbel⟩

/-- octavoref01.Bytes: the same answer as le.Bytes. -/
theorem refBytes_any (n width : Int) (w : World) (hn : n ≤ 9223372036854775807) :
    Calls Try.prog 17 #[.int .i64 n, .int .i64 width] w fun e w' => ∃ v, e = .returned (.tuple #[v, .int .i64 (mBytes n width).2]) ∧
      w'.ownsRow w.heap.size 5 1 v (mBytes n width).1.length (bv (mBytes n width).1) ∧ Below w.heap.size w w' := by
  by_cases h : ¬ (1 ≤ width ∧ width ≤ 8) ∨ n < 0
  · refine (refBytes_arg n width w h).mono fun e w' ⟨he, hw⟩ => ?_
    subst hw
    have hb : mBytes n width = ([], 1) := by unfold mBytes; rw [if_pos h]
    rw [hb]
    exact ⟨_, he, own_nil _ _ _ _, Below.refl _ _⟩
  · obtain ⟨n', rfl⟩ := Int.eq_ofNat_of_zero_le (show 0 ≤ n by omega)
    obtain ⟨k, rfl⟩ := Int.eq_ofNat_of_zero_le (show 0 ≤ width by omega)
    exact refBytes_ok n' k w (by omega) (by omega) (by omega)
end Go.Proofs.Ytgpjhcpiemdbcaa
