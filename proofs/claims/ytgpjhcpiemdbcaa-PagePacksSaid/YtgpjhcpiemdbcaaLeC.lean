/- Contracts of le.Int (for every slice of bytes the answer that the document gives). Conditions: the slices read as the lists that are named. -/
import Derived.Test.YtgpjhcpiemdbcaaLeA
import Derived.Test.YtgpjhcpiemdbcaaSame
import Derived.BigQuiet
import Derived.Deep.QuietTactic
namespace Go.Proofs.Ytgpjhcpiemdbcaa
open Go.RowKit


theorem leInt_arg (l : List UInt8) (A : Option Addr) (c : Nat) (w : World) (hl : l.length ≤ maxLen) (h : ¬ (1 ≤ l.length ∧ l.length ≤ 8)) :
    Calls Try.prog 30 #[.slice A l.length c] w fun e w' => e = .returned (.tuple #[.int .i64 0, .int .i64 1]) ∧ w = w' := by
  unfold maxLen at hl
  go_enter Try.func30, Try.ntmps30
  go_wp2_with (go_at_call 31; refine (isWidth_no _ _ (by omega)).mono ?_; rintro e w' ⟨rfl, rfl⟩)
  go_ret2
  exact ⟨rfl, rfl⟩

set_option maxHeartbeats 400000 in
theorem leInt_ok (l : List UInt8) (A : Option Addr) (B c : Nat) (w : World) (h1 : 1 ≤ l.length) (h8 : l.length ≤ 8) (h : Reads w B 1 A l.length (bv l)) :
    Calls Try.prog 30 #[.slice A l.length c] w fun e w' => e = .returned (.tuple #[.int .i64 (mInt l).1, .int .i64 (mInt l).2]) ∧ w = w' := by
  obtain ⟨b, off, rfl, hbB, hc⟩ := h.form (by omega)
  go_enter Try.func30, Try.ntmps30
  go_wp2_with (go_at_call 31; refine (isWidth_yes _ _ (by omega) (by omega)).mono ?_; rintro e w' ⟨rfl, rfl⟩)
  go_loop [4, 13] (fun nv i => ∃ k m : Nat, k ≤ l.length ∧ i = .int .i64 k ∧ nv = .int .u64 m ∧ m < 18446744073709551616 ∧ Hid (m = num (l.take k))) (fun _ i => l.length - (intOf i).toNat)
  case atStart => exact ⟨0, 0, Nat.zero_le _, rfl, rfl, by omega, by simp [Hid, num]⟩
  case round =>
    obtain ⟨k, m, hk, rfl, rfl, hm, hmk⟩ := hrel
    by_cases hlt : k < l.length
    · have hx := hc k _ (bv_get l k hlt)
      go_wp2
      go_round
      case rel =>
        rw [hmk.out, or_shift l k hlt h8]
        refine ⟨k + 1, num (l.take (k + 1)), by omega, by go_num, rfl, ?_, rfl⟩
        have := num_take_lt l (k + 1) (by omega)
        have h2 : 256 ^ (k + 1) ≤ 256 ^ 8 := Nat.pow_le_pow_right (by omega) (by omega)
        have h7 : (256 : Nat) ^ 8 = 18446744073709551616 := by decide
        omega
      case measure => simp [intOf]; omega
    · obtain rfl : k = l.length := by omega
      clear hlt
      have hm' : m = num l := by rw [hmk.out, List.take_length]
      subst hm'
      by_cases hz : 9223372036854775808 ≤ num l
      · have hb : mInt l = (0, 2) := by unfold mInt; rw [if_neg (by omega), if_pos hz]
        have HB := Lib.hid hb
        clear hb
        go_wp2
        go_ret2
        rw [HB.out]
        exact ⟨rfl, rfl⟩
      · have hb : mInt l = ((num l : Int), 0) := by unfold mInt; rw [if_neg (by omega), if_neg hz]
        have HB := Lib.hid hb
        clear hb
        go_wp2
        go_ret2
        rw [HB.out]
        exact ⟨rfl, rfl⟩

/-- le.Int: for every slice of bytes. -/
theorem leInt_any (l : List UInt8) (A : Option Addr) (B c : Nat) (w : World) (hl : l.length ≤ maxLen) (h : Reads w B 1 A l.length (bv l)) :
    Calls Try.prog 30 #[.slice A l.length c] w fun e w' => e = .returned (.tuple #[.int .i64 (mInt l).1, .int .i64 (mInt l).2]) ∧ w = w' := by
  by_cases hw : 1 ≤ l.length ∧ l.length ≤ 8
  · exact leInt_ok l A B c w hw.1 hw.2 h
  · have hb : mInt l = (0, 1) := by unfold mInt; rw [if_pos hw]
    rw [hb]
    exact leInt_arg l A c w hl hw
end Go.Proofs.Ytgpjhcpiemdbcaa
