/- Contracts of crc.halve, crc.moveOn, crc.times, crc.Join and of octavoref02.move and octavoref02.Join. Conditions: a sum is below 2^32. -/
import Derived.Test.YtmnaaffiebighaaProg
import Derived.Test.YtmnaaffiebighaaCrcTimes
import Derived.WalkKit
import Derived.WalkSpells
import Derived.WalkLawsBesides
import Derived.Lib.Hide
import Derived.Outline
namespace Go.Proofs.Ytmnaaffiebighaa
open Go.RowKit

theorem halve_val (s : Nat) (h : s < 4294967296) : bits .xor .u32 ((s : Int) / 2) (bits .and .u32 3988292384 (-(bits .and .u32 (s : Int) 1) % 4294967296)) = (half s : Int) := by
  have e1 : bits .and .u32 (s : Int) 1 = ((s % 2 : Nat) : Int) := by
    have := u32_and_nat s 1 h (by omega)
    rw [nat_mask1] at this
    exact this
  rw [e1]
  unfold half
  rcases Nat.mod_two_eq_zero_or_one s with h0 | h0
  · rw [h0, if_neg (by omega)]
    have e2 : bits .and .u32 3988292384 ((-((0 : Nat) : Int)) % 4294967296) = ((0 : Nat) : Int) := by decide +kernel
    rw [e2]
    have := u32_xor_nat (s / 2) 0 (by omega) (by omega)
    rw [Nat.xor_zero] at this
    exact this
  · rw [h0, if_pos rfl]
    have e2 : bits .and .u32 3988292384 ((-((1 : Nat) : Int)) % 4294967296) = ((3988292384 : Nat) : Int) := by decide +kernel
    rw [e2]
    exact u32_xor_nat (s / 2) 3988292384 (by omega) (by omega)

set_option maxHeartbeats 400000 in
theorem halve_any (s : Nat) (w : World) (h : s < 4294967296) :
    Calls Try.prog 22 #[.int .u32 s] w fun e w' => e = .returned (.int .u32 (half s)) ∧ w = w' := by
  have HV := Lib.hid (halve_val s h)
  go_enter Try.func22, Try.ntmps22
  go_wp2
  go_ret
  exact ⟨by rw [← HV.out]; rfl, rfl⟩

set_option maxHeartbeats 400000 in
theorem moveOn_any (s : Nat) (w : World) (h : s < 4294967296) :
    Calls Try.prog 18 #[.int .u32 s] w fun e w' => e = .returned (.int .u32 (mv s)) ∧ w = w' := by
  go_enter Try.func18, Try.ntmps18
  go_wp2
  go_loop [0, 3] (fun sv i => ∃ k : Nat, k ≤ 8 ∧ i = .int .i64 k ∧ sv = .int .u32 (halves k s)) (fun _ i => 8 - (intOf i).toNat)
  case atStart => exact ⟨0, by omega, rfl, rfl⟩
  case round =>
    obtain ⟨k, hk, rfl, rfl⟩ := hrel
    have hl := halves_lt k h
    by_cases hlt : k < 8
    · have HS := Lib.hid (halves_succ k s)
      go_wp2_with fail
      refine (halve_any _ _ hl).mono ?_
      rintro e w' ⟨rfl, rfl⟩
      go_wp2
      go_round
      case rel => exact ⟨k + 1, by omega, by go_num, by rw [HS.out]⟩
      case measure => simp [intOf]; omega
    · obtain rfl : k = 8 := by omega
      go_wp2
      go_ret
      exact ⟨rfl, rfl⟩

set_option maxHeartbeats 400000 in
theorem refMove_any (s : Nat) (w : World) (h : s < 4294967296) :
    Calls Try.prog 19 #[.int .u32 s] w fun e w' => e = .returned (.int .u32 (mv s)) ∧ w = w' := by
  go_enter Try.func19, Try.ntmps19
  go_wp2
  go_loop [0, 3] (fun sv i => ∃ k : Nat, k ≤ 8 ∧ i = .int .i64 k ∧ sv = .int .u32 (halves k s)) (fun _ i => 8 - (intOf i).toNat)
  case atStart => exact ⟨0, by omega, rfl, rfl⟩
  case round =>
    obtain ⟨k, hk, rfl, rfl⟩ := hrel
    have hl := halves_lt k h
    have HS := Lib.hid (halves_succ k s)
    generalize ht : halves k s = t at *
    have HT := Lib.hid ht
    clear ht
    by_cases hlt : k < 8
    · rcases Nat.mod_two_eq_zero_or_one t with h2 | h2
      · have HH : Hid (half t = t / 2) := by show half t = t / 2; unfold half; rw [if_neg (by omega)]
        have hb : ((t : Int) % 2 == 1) = false := by rw [beq_eq_false_iff_ne]; omega
        clear h2
        go_wp2
        go_round
        case rel => exact ⟨k + 1, by omega, by go_num, by rw [HS.out, HH.out]; rfl⟩
        case measure => simp [intOf]; omega
      · have HH : Hid (half t = t / 2 ^^^ 3988292384) := by show half t = _; unfold half; rw [if_pos (by omega)]
        have hb : ((t : Int) % 2 == 1) = true := by rw [beq_iff_eq]; omega
        have HX := Lib.hid (u32_xor_nat (t / 2) 3988292384 (by omega) (by omega))
        clear h2
        go_wp2
        go_round
        case rel => exact ⟨k + 1, by omega, by go_num, by rw [HS.out, HH.out, ← HX.out]; rfl⟩
        case measure => simp [intOf]; omega
    · obtain rfl : k = 8 := by omega
      go_wp2
      go_ret
      exact ⟨by rw [show mv s = t from HT.out]; rfl, rfl⟩

theorem bit_test (a k : Nat) (ha : a < 4294967296) (hk : k < 32) : (bits .and .u32 (a : Int) (2147483648 / 2 ^ k) != 0) = a.testBit (31 - k) := by
  have e : (2147483648 : Int) / 2 ^ k = ((2 ^ (31 - k) : Nat) : Int) := by
    have h1 : (2 : Nat) ^ 31 / 2 ^ k = 2 ^ (31 - k) := Nat.pow_div (by omega) (by omega)
    rw [← h1]
    simp
  have hp : 2 ^ (31 - k) < 4294967296 := Nat.lt_of_le_of_lt (Nat.pow_le_pow_right (by omega) (show 31 - k ≤ 31 by omega)) (by omega)
  rw [e, u32_and_nat a _ ha hp, nat_bit, Nat.testBit_eq_decide_div_mod_eq]
  have hpos : 0 < 2 ^ (31 - k) := Nat.pow_pos (by omega)
  rcases Nat.mod_two_eq_zero_or_one (a / 2 ^ (31 - k)) with h | h
  · rw [h, Nat.zero_mul]; rfl
  · rw [h, Nat.one_mul, decide_eq_true rfl, bne_iff_ne]
    omega

set_option maxHeartbeats 400000 in
theorem times_any (a b : Nat) (w : World) (ha : a < 4294967296) (hb : b < 4294967296) :
    Calls Try.prog 21 #[.int .u32 a, .int .u32 b] w fun e w' => e = .returned (.int .u32 (tim a b)) ∧ w = w' := by
  go_enter Try.func21, Try.ntmps21
  go_wp2
  go_loop [1, 5, 7] (fun bv pv i => ∃ k : Nat, k ≤ 32 ∧ i = .int .i64 k ∧ bv = .int .u32 (halves k b) ∧ pv = .int .u32 (timK k a b)) (fun _ _ i => 32 - (intOf i).toNat)
  case atStart => exact ⟨0, by omega, rfl, rfl, rfl⟩
  case round =>
    obtain ⟨k, hk, rfl, rfl, rfl⟩ := hrel
    have hl := halves_lt k hb
    have hp := timK_lt k a b hb
    by_cases hlt : k < 32
    · have HS := Lib.hid (halves_succ k b)
      have hbt := bit_test a k ha hlt
      by_cases ht : a.testBit (31 - k) = true
      · have HT : Hid (timK (k + 1) a b = timK k a b ^^^ halves k b) := by show timK (k + 1) a b = _; rw [timK, if_pos ht]
        rw [ht] at hbt
        clear ht
        generalize halves k b = t at *
        generalize timK k a b = p at *
        have HX := Lib.hid (u32_xor_nat p t hp hl)
        go_wp2_with fail
        refine (halve_any _ _ hl).mono ?_
        rintro e w' ⟨rfl, rfl⟩
        go_wp2
        go_round
        case rel => exact ⟨k + 1, by omega, by go_num, by rw [HS.out], by rw [HT.out, ← HX.out]⟩
        case measure => simp [intOf]; omega
      · have HT : Hid (timK (k + 1) a b = timK k a b) := by show timK (k + 1) a b = _; rw [timK, if_neg ht, Nat.xor_zero]
        rw [Bool.not_eq_true] at ht
        rw [ht] at hbt
        clear ht
        generalize halves k b = t at *
        generalize timK k a b = p at *
        go_wp2_with fail
        refine (halve_any _ _ hl).mono ?_
        rintro e w' ⟨rfl, rfl⟩
        go_wp2
        go_round
        case rel => exact ⟨k + 1, by omega, by go_num, by rw [HS.out], by rw [HT.out]⟩
        case measure => simp [intOf]; omega
    · obtain rfl : k = 32 := by omega
      go_wp2
      go_ret
      exact ⟨rfl, rfl⟩

theorem pw_0 : pw 0 = mv 2147483648 := rfl
theorem odd_test (n : Nat) (hn : n ≤ 9223372036854775807) : bits .and .i64 (n : Int) 1 = ((n % 2 : Nat) : Int) := by
  have := bits_mask .i64 63 (by decide) (fun n h0 h1 => by rw [IntKind.wrap_i64]; omega) 1 (by decide) (n : Int) (by omega) (by omega)
  simpa using this

set_option maxHeartbeats 400000 in
theorem join_pos (a b n : Nat) (w : World) (ha : a < 4294967296) (hb : b < 4294967296) (hn : n ≤ 9223372036854775807) :
    Calls Try.prog 15 #[.int .u32 a, .int .u32 b, .int .i64 n] w fun e w' => e = .returned (.int .u32 (joinOf a b n)) ∧ w = w' := by
  go_enter Try.func15, Try.ntmps15
  go_wp2_with fail
  refine (moveOn_any 2147483648 _ (by omega)).mono ?_
  rintro e w' ⟨rfl, rfl⟩
  go_wp2_with fail
  go_loop [0, 2, 7] (fun av nv pv => ∃ k m s : Nat, m ≤ 9223372036854775807 ∧ s < 4294967296 ∧ nv = .int .i64 m ∧ Hid (m = n / 2 ^ k) ∧ av = .int .u32 s ∧ Hid (s = mvs (n % 2 ^ k) a) ∧ pv = .int .u32 (pw k)) (fun _ nv _ => (intOf nv).toNat)
  case atStart => exact ⟨0, n, a, hn, ha, rfl, by simp [Hid], rfl, by simp [Hid, Nat.mod_one, mvs], rfl⟩
  case round =>
    obtain ⟨k, m, s, hm, hs, rfl, HM, rfl, HS, rfl⟩ := hrel
    have hp := pw_lt k
    have HQ := Lib.hid (pw_sq k)
    have HM' : Hid (m / 2 = n / 2 ^ (k + 1)) := by
      show m / 2 = _
      rw [HM.out, Nat.div_div_eq_div_mul, Nat.pow_succ]
    have hstep := mvs_mod_step n k a ha
    rw [← HM.out, ← HS.out] at hstep
    by_cases hlt : 0 < m
    · have hod := odd_test m hm
      rcases Nat.mod_two_eq_zero_or_one m with h2 | h2
      · rw [if_neg (by omega)] at hstep
        have HT := Lib.hid hstep
        rw [h2] at hod
        clear hstep h2
        generalize pw k = p at *
        go_wp2_with fail
        refine (times_any _ _ _ hp hp).mono ?_
        rintro e w' ⟨rfl, rfl⟩
        go_wp2
        go_round
        case rel => exact ⟨k + 1, m / 2, s, by omega, hs, by go_num, HM', rfl, HT, by rw [HQ.out]⟩
        case measure => simp [intOf]; omega
      · rw [if_pos h2] at hstep
        have HT := Lib.hid hstep
        rw [h2] at hod
        clear hstep h2
        have hs' : tim s (pw k) < 4294967296 := timK_lt _ _ _ hp
        generalize pw k = p at *
        go_wp2_with fail
        refine (times_any _ _ _ hs hp).mono ?_
        rintro e w' ⟨rfl, rfl⟩
        go_wp2_with fail
        refine (times_any _ _ _ hp hp).mono ?_
        rintro e w' ⟨rfl, rfl⟩
        go_wp2
        go_round
        case rel => exact ⟨k + 1, m / 2, _, by omega, hs', by go_num, HM', rfl, HT, by rw [HQ.out]⟩
        case measure => simp [intOf]; omega
    · obtain rfl : m = 0 := by omega
      have HE := Lib.hid (HS.out.trans (mvs_mod_end n k a HM.out.symm))
      have HX := Lib.hid (u32_xor_nat s b hs hb)
      clear hstep HQ HM'
      generalize pw k = p at *
      go_wp2
      go_ret
      exact ⟨by rw [joinOf, ← HE.out, ← HX.out]; rfl, rfl⟩

set_option maxHeartbeats 400000 in
theorem join_neg (a b : Nat) (n : Int) (w : World) (ha : a < 4294967296) (hb : b < 4294967296) (hn : n ≤ 0) :
    Calls Try.prog 15 #[.int .u32 a, .int .u32 b, .int .i64 n] w fun e w' => e = .returned (.int .u32 (joinOf a b 0)) ∧ w = w' := by
  have HX := Lib.hid (u32_xor_nat a b ha hb)
  have hn' : ¬ 0 < n := by omega
  go_enter Try.func15, Try.ntmps15
  go_wp2_with fail
  refine (moveOn_any 2147483648 _ (by omega)).mono ?_
  rintro e w' ⟨rfl, rfl⟩
  go_wp2_with fail
  refine wp_loop_rounds 1 ?_
  rw [rounds_succ]
  go_wp2
  go_ret
  exact ⟨by rw [joinOf, mvs, ← HX.out]; rfl, rfl⟩

/-- crc.Join: for every n the document's answer. -/
theorem join_any (a b : Nat) (n : Int) (w : World) (ha : a < 4294967296) (hb : b < 4294967296) (hn : n ≤ 9223372036854775807) :
    Calls Try.prog 15 #[.int .u32 a, .int .u32 b, .int .i64 n] w fun e w' => e = .returned (.int .u32 (joinOf a b n.toNat)) ∧ w = w' := by
  by_cases h : 0 ≤ n
  · obtain ⟨m, rfl⟩ := Int.eq_ofNat_of_zero_le h
    exact join_pos a b m w ha hb (by omega)
  · rw [show n.toNat = 0 from by omega]
    exact join_neg a b n w ha hb (by omega)

set_option maxHeartbeats 400000 in
theorem refJoin_any (a b : Nat) (n : Int) (w : World) (ha : a < 4294967296) (hb : b < 4294967296) (hn : n ≤ 9223372036854775807) :
    Calls Try.prog 16 #[.int .u32 a, .int .u32 b, .int .i64 n] w fun e w' => e = .returned (.int .u32 (joinOf a b n.toNat)) ∧ w = w' := by
  go_enter Try.func16, Try.ntmps16
  go_wp2
  go_loop [0, 7] (fun av i => ∃ k s : Nat, k ≤ n.toNat ∧ s < 4294967296 ∧ i = .int .i64 k ∧ av = .int .u32 s ∧ Hid (s = mvs k a)) (fun _ i => n.toNat - (intOf i).toNat)
  case atStart => exact ⟨0, a, by omega, ha, rfl, rfl, by simp [Hid, mvs]⟩
  case round =>
    obtain ⟨k, s, hk, hs, rfl, rfl, HS⟩ := hrel
    by_cases hlt : (k : Int) < n
    · have HT : Hid (mv s = mvs (k + 1) a) := by show mv s = _; rw [mvs_succ, HS.out]
      have hl := mv_lt hs
      go_wp2_with fail
      refine (refMove_any _ _ hs).mono ?_
      rintro e w' ⟨rfl, rfl⟩
      go_wp2
      go_round
      case rel => exact ⟨k + 1, _, by omega, hl, by go_num, rfl, HT⟩
      case measure => simp [intOf]; omega
    · have HX := Lib.hid (u32_xor_nat s b hs hb)
      obtain rfl : k = n.toNat := by omega
      go_wp2
      go_ret
      exact ⟨by rw [joinOf, ← HS.out, ← HX.out]; rfl, rfl⟩
end Go.Proofs.Ytmnaaffiebighaa
