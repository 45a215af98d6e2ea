/- Contracts of octavoref02.Of and of crc.Of: the sum of all bytes, one part behind the other. Conditions: the slices read as the lists that are named, and their lengths are ints. -/
import Derived.Test.YtgpjhcpiemdbcaaCrcM
import Derived.Test.YtgpjhcpiemdbcaaMath
import Derived.Test.YtgpjhcpiemdbcaaParts
namespace Go.Proofs.Ytgpjhcpiemdbcaa
open Go.RowKit

theorem reg_take (s : Nat) (l : List UInt8) (k : Nat) (h : k < l.length) : reg s (l.take (k + 1)) = mv (reg s (l.take k) ^^^ l[k].toNat) := by
  rw [List.take_succ_eq_append_getElem h, reg_snoc]
theorem xor_u8_val (s : Nat) (c : UInt8) (hs : s < 4294967296) : bits .xor .u32 (s : Int) (c.toNat : Int) = ((s ^^^ c.toNat : Nat) : Int) :=
  u32_xor_nat s c.toNat hs (by have := c.toNat_lt; omega)

set_option maxHeartbeats 400000 in
theorem refOf_any (l : List UInt8) (A : Option Addr) (B c : Nat) (w : World) (hl : l.length ≤ 9223372036854775807) (h : Reads w B 1 A l.length (bv l)) :
    Calls Try.prog 18 #[.slice A l.length c] w fun e w' => e = .returned (.int .u32 (sumOf l)) ∧ w = w' := by
  go_enter Try.func18, Try.ntmps18
  go_wp2
  go_loop [3, 4] (fun sv i => ∃ k s : Nat, k ≤ l.length ∧ s < 4294967296 ∧ i = .int .i64 k ∧ sv = .int .u32 s ∧ Hid (s = reg 4294967295 (l.take k))) (fun _ i => l.length - (intOf i).toNat)
  case atStart => exact ⟨0, 4294967295, Nat.zero_le _, by omega, rfl, rfl, rfl⟩
  case round =>
    obtain ⟨k, s, hk, hs, rfl, rfl, HS⟩ := hrel
    by_cases hlt : k < l.length
    · obtain ⟨b, off, rfl, hbB, hc⟩ := h.form (by omega)
      have hx := hc k _ (bv_get l k hlt)
      have hi : (k : Int) < (l.length : Int) := by omega
      have HT : Hid (mv (s ^^^ l[k].toNat) = reg 4294967295 (l.take (k + 1))) := by show _ = _; rw [reg_take _ _ _ hlt, HS.out]
      have hxl := xor_byte_lt l[k] hs
      have hb := l[k].toNat_lt
      have HX := Lib.hid (xor_u8_val s l[k] hs)
      generalize l[k].toNat = x at *
      go_wp2_with fail
      rw [HX.out]
      refine (refMove_any _ _ hxl).mono ?_
      rintro e w' ⟨rfl, rfl⟩
      have hml := mv_lt hxl
      go_wp2
      go_round
      case rel => exact ⟨k + 1, _, by omega, hml, by go_num, rfl, HT⟩
      case measure => simp [intOf]; omega
    · obtain rfl : k = l.length := by omega
      have HX := Lib.hid (u32_xor_nat s 4294967295 hs (by omega))
      go_wp2
      go_ret
      refine ⟨?_, rfl⟩
      have := HS.out
      rw [List.take_length] at this
      rw [sumOf, ← this, ← HX.out]
      rfl

theorem not_val (s : Nat) (hs : s < 4294967296) : bits .xor .u32 IntKind.u32.max (s : Int) = ((s ^^^ 4294967295 : Nat) : Int) := by
  have h : IntKind.u32.max = ((4294967295 : Nat) : Int) := by decide +kernel
  rw [h, u32_xor_nat _ _ (by omega) hs, Nat.xor_comm]

set_option maxHeartbeats 400000 in
theorem of_any (ps : List Part) (A : Option Addr) (B c : Nat) (w : World) (hl : ps.length ≤ 9223372036854775807) (h : Reads w B 1 A ps.length (pvs ps)) (hp : PartsRead w B ps) :
    Calls Try.prog 29 #[.slice A ps.length c] w fun e w' => e = .returned (.int .u32 (sumOf (joinP ps))) ∧ w = w' := by
  go_enter Try.func29, Try.ntmps29
  go_wp2
  go_loop [3, 10] (fun sv i => ∃ k s : Nat, k ≤ ps.length ∧ s < 4294967296 ∧ i = .int .i64 k ∧ sv = .int .u32 s ∧ Hid (s = reg 4294967295 (joinP (ps.take k)))) (fun _ i => ps.length - (intOf i).toNat)
  case atStart => exact ⟨0, 4294967295, Nat.zero_le _, by omega, rfl, rfl, rfl⟩
  case round =>
    obtain ⟨k, s0, hk, hs0, rfl, rfl, HS0⟩ := hrel
    by_cases hlt : k < ps.length
    · obtain ⟨b, off, rfl, hbB, hc⟩ := h.form (by omega)
      have hx := hc k _ (pvs_get ps k hlt)
      have hi : (k : Int) < (ps.length : Int) := by omega
      obtain ⟨hr, hll⟩ := hp k _ (List.getElem?_eq_getElem hlt)
      have HF := Lib.hid (joinP_take ps k hlt)
      generalize ps[k] = q at *
      obtain ⟨A', l, c'⟩ := q
      simp only at hr hll hx HF
      go_wp2
      go_loop [3, 16] (fun sv i => ∃ j s : Nat, j ≤ l.length ∧ s < 4294967296 ∧ i = .int .i64 j ∧ sv = .int .u32 s ∧ Hid (s = reg s0 (l.take j))) (fun _ i => l.length - (intOf i).toNat)
      case atStart => exact ⟨0, s0, Nat.zero_le _, hs0, rfl, rfl, rfl⟩
      case round =>
        obtain ⟨j, s, hj, hs, rfl, rfl, HS⟩ := hrel
        by_cases hlt2 : j < l.length
        · obtain ⟨b', off', rfl, hbB', hc'⟩ := hr.form (by omega)
          have hx' := hc' j _ (bv_get l j hlt2)
          have hi' : (j : Int) < (l.length : Int) := by omega
          have HT : Hid (mv (s ^^^ l[j].toNat) = reg s0 (l.take (j + 1))) := by show _ = _; rw [reg_take _ _ _ hlt2, HS.out]
          have hxl := xor_byte_lt l[j] hs
          have hb := l[j].toNat_lt
          have HX := Lib.hid (xor_u8_val s l[j] hs)
          generalize l[j].toNat = x at *
          go_wp2_with fail
          rw [HX.out]
          refine (moveOn_any _ _ hxl).mono ?_
          rintro e w' ⟨rfl, rfl⟩
          have hml := mv_lt hxl
          go_wp2
          go_round
          case rel => exact ⟨j + 1, _, by omega, hml, by go_num, rfl, HT⟩
          case measure => simp [intOf]; omega
        · obtain rfl : j = l.length := by omega
          have HT : Hid (s = reg 4294967295 (joinP (ps.take (k + 1)))) := by
            show s = _
            rw [HF.out, reg_append, ← HS0.out, HS.out, List.take_length]
          go_wp2
          go_round
          case rel => exact ⟨k + 1, _, by omega, hs, by go_num, rfl, HT⟩
          case measure => simp [intOf]; omega
    · obtain rfl : k = ps.length := by omega
      go_wp2
      go_ret
      refine ⟨?_, rfl⟩
      have h1 := HS0.out
      rw [List.take_length] at h1
      rw [sumOf, ← h1, ← not_val s0 hs0]
      rfl
end Go.Proofs.Ytgpjhcpiemdbcaa
