/- Contracts of crc.halve, crc.moveOn and of octavoref02.move. Conditions: a sum is below 2^32. -/
import Derived.Test.YtgpjhcpiemdbcaaProg
import Derived.Test.YtgpjhcpiemdbcaaCrcTimes
import Derived.WalkKit
import Derived.WalkSpells
import Derived.WalkLawsBesides
import Derived.Lib.Hide
import Derived.Outline
namespace Go.Proofs.Ytgpjhcpiemdbcaa
open Go.RowKit

theorem halve_val (s : Nat) (h : s < 4294967296) : bits .xor .u32 ((s : Int) / 2) (bits .and .u32 3988292384 (-(bits .and .u32 (s : Int) 1) % 4294967296)) = (half s : Int) := by
  have e1 : bits .and .u32 (s : Int) 1 = ((s % 2 : Nat) : Int) := by
    have := u32_and_nat s 1 h (by omega)
    rw [nat_mask1] at this
    exact this
  rw [e1]
  unfold half
  rcases Nat.mod_two_eq_zero_or_one s with h0 | h0
  · rw [h0, if_neg (by omega)]
    have e2 : bits .and .u32 3988292384 ((-((0 : Nat) : Int)) % 4294967296) = ((0 : Nat) : Int) := by decide +kernel
    rw [e2]
    have := u32_xor_nat (s / 2) 0 (by omega) (by omega)
    rw [Nat.xor_zero] at this
    exact this
  · rw [h0, if_pos rfl]
    have e2 : bits .and .u32 3988292384 ((-((1 : Nat) : Int)) % 4294967296) = ((3988292384 : Nat) : Int) := by decide +kernel
    rw [e2]
    exact u32_xor_nat (s / 2) 3988292384 (by omega) (by omega)

set_option maxHeartbeats 400000 in
theorem halve_any (s : Nat) (w : World) (h : s < 4294967296) :
    Calls Try.prog 33 #[.int .u32 s] w fun e w' => e = .returned (.int .u32 (half s)) ∧ w = w' := by
  have HV := Lib.hid (halve_val s h)
  go_enter Try.func33, Try.ntmps33
  go_wp2
  go_ret
  exact ⟨by rw [← HV.out]; rfl, rfl⟩

set_option maxHeartbeats 400000 in
theorem moveOn_any (s : Nat) (w : World) (h : s < 4294967296) :
    Calls Try.prog 32 #[.int .u32 s] w fun e w' => e = .returned (.int .u32 (mv s)) ∧ w = w' := by
  go_enter Try.func32, Try.ntmps32
  go_wp2
  go_loop [0, 3] (fun sv i => ∃ k : Nat, k ≤ 8 ∧ i = .int .i64 k ∧ sv = .int .u32 (halves k s)) (fun _ i => 8 - (intOf i).toNat)
  case atStart => exact ⟨0, by omega, rfl, rfl⟩
  case round =>
    obtain ⟨k, hk, rfl, rfl⟩ := hrel
    have hl := halves_lt k h
    by_cases hlt : k < 8
    · have HS := Lib.hid (halves_succ k s)
      go_wp2_with fail
      refine (halve_any _ _ hl).mono ?_
      rintro e w' ⟨rfl, rfl⟩
      go_wp2
      go_round
      case rel => exact ⟨k + 1, by omega, by go_num, by rw [HS.out]⟩
      case measure => simp [intOf]; omega
    · obtain rfl : k = 8 := by omega
      go_wp2
      go_ret
      exact ⟨rfl, rfl⟩

set_option maxHeartbeats 400000 in
theorem refMove_any (s : Nat) (w : World) (h : s < 4294967296) :
    Calls Try.prog 27 #[.int .u32 s] w fun e w' => e = .returned (.int .u32 (mv s)) ∧ w = w' := by
  go_enter Try.func27, Try.ntmps27
  go_wp2
  go_loop [0, 3] (fun sv i => ∃ k : Nat, k ≤ 8 ∧ i = .int .i64 k ∧ sv = .int .u32 (halves k s)) (fun _ i => 8 - (intOf i).toNat)
  case atStart => exact ⟨0, by omega, rfl, rfl⟩
  case round =>
    obtain ⟨k, hk, rfl, rfl⟩ := hrel
    have hl := halves_lt k h
    have HS := Lib.hid (halves_succ k s)
    generalize ht : halves k s = t at *
    have HT := Lib.hid ht
    clear ht
    by_cases hlt : k < 8
    · rcases Nat.mod_two_eq_zero_or_one t with h2 | h2
      · have HH : Hid (half t = t / 2) := by show half t = t / 2; unfold half; rw [if_neg (by omega)]
        have hb : ((t : Int) % 2 == 1) = false := by rw [beq_eq_false_iff_ne]; omega
        clear h2
        go_wp2
        go_round
        case rel => exact ⟨k + 1, by omega, by go_num, by rw [HS.out, HH.out]; rfl⟩
        case measure => simp [intOf]; omega
      · have HH : Hid (half t = t / 2 ^^^ 3988292384) := by show half t = _; unfold half; rw [if_pos (by omega)]
        have hb : ((t : Int) % 2 == 1) = true := by rw [beq_iff_eq]; omega
        have HX := Lib.hid (u32_xor_nat (t / 2) 3988292384 (by omega) (by omega))
        clear h2
        go_wp2
        go_round
        case rel => exact ⟨k + 1, by omega, by go_num, by rw [HS.out, HH.out, ← HX.out]; rfl⟩
        case measure => simp [intOf]; omega
    · obtain rfl : k = 8 := by omega
      go_wp2
      go_ret
      exact ⟨by rw [show mv s = t from HT.out]; rfl, rfl⟩
end Go.Proofs.Ytgpjhcpiemdbcaa
