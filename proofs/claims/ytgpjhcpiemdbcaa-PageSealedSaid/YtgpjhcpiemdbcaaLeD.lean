/- Contract of octavoref01.Int: the same answer as that of le.Int, for every slice of bytes. Conditions: the slice reads as the list that is named. -/
import Derived.Test.YtgpjhcpiemdbcaaLeA
import Derived.BigQuiet
import Derived.Deep.QuietTactic
namespace Go.Proofs.Ytgpjhcpiemdbcaa
open Go.RowKit

theorem refInt_arg (l : List UInt8) (A : Option Addr) (c : Nat) (w : World) (hl : l.length ≤ maxLen) (h : ¬ (1 ≤ l.length ∧ l.length ≤ 8)) :
    Calls Try.prog 19 #[.slice A l.length c] w fun e w' => e = .returned (.tuple #[.int .i64 0, .int .i64 1]) ∧ w = w' := by
  unfold maxLen at hl
  by_cases h1 : l.length < 1
  · clear h
    go_enter Try.func19, Try.ntmps19
    go_wp2
    go_ret2
    exact ⟨rfl, rfl⟩
  · have h8 : 8 < l.length := by omega
    clear h
    go_enter Try.func19, Try.ntmps19
    go_wp2
    go_ret2
    exact ⟨rfl, rfl⟩

set_option maxHeartbeats 400000 in
theorem refInt_top (b off n x : Nat) (c : Nat) (w : World) (hb : ((n : Int) == 8) = true) (hi : (7 : Int) < (n : Int)) (h8 : (n : Int) ≤ 8) (ht : (128 : Int) ≤ (x : Int)) (hx : w.cell? ⟨b, off + 7, none⟩ = some (.int .u8 (x : Int))) :
    Calls Try.prog 19 #[.slice (some ⟨b, off, none⟩) n c] w fun e w' => e = .returned (.tuple #[.int .i64 0, .int .i64 2]) ∧ Below w.heap.size w w' := by
  go_enter Try.func19, Try.ntmps19
  go_wp2
  go_ret2
  exact ⟨rfl, Below.refl _ _⟩

theorem num_drop (l : List UInt8) (k : Nat) (h : k < l.length) : num (l.drop (l.length - 1 - k)) = num (l.drop (l.length - k)) * 256 + (l[l.length - 1 - k]'(by omega)).toNat := by
  rw [List.drop_eq_getElem_cons (by omega), num, show l.length - 1 - k + 1 = l.length - k from by omega]
  omega

theorem num_take_add (l : List UInt8) (k : Nat) : num l = num (l.take k) + 256 ^ (min k l.length) * num (l.drop k) := by
  have := num_append (l.take k) (l.drop k)
  rwa [List.take_append_drop, List.length_take] at this

theorem num_drop_le (l : List UInt8) (k : Nat) : num (l.drop k) ≤ num l := by
  induction k generalizing l with
  | zero => simp
  | succ k ih =>
    cases l with
    | nil => simp
    | cons a t =>
      have := ih t
      rw [List.drop_succ_cons, num]
      omega

set_option maxRecDepth 100000 in
set_option maxHeartbeats 400000 in
theorem refInt_ok (l : List UInt8) (A : Option Addr) (B c : Nat) (w : World) (h1 : 1 ≤ l.length) (h8 : l.length ≤ 8) (ht : num l < 9223372036854775808) (h : Reads w B 1 A l.length (bv l)) :
    Calls Try.prog 19 #[.slice A l.length c] w fun e w' => e = .returned (.tuple #[.int .i64 (num l), .int .i64 0]) ∧ Below w.heap.size w w' := by
  obtain ⟨b, off, rfl, hbB, hc⟩ := h.form (by omega)
  clear h
  have h8i : (l.length : Int) ≤ 8 := by omega
  have HC := Lib.hid hc
  clear hc
  have key : (∃ x : Nat, w.cell? ⟨b, off + 7, none⟩ = some (.int .u8 (x : Int)) ∧ ((l.length : Int) == 8) = true ∧ (7 : Int) < (l.length : Int) ∧ (x : Int) < 128) ∨ ((l.length : Int) == 8) = false := by
    by_cases hl8 : l.length = 8
    · refine .inl ⟨_, HC.out 7 _ (bv_get l 7 (by omega)), by rw [beq_iff_eq]; omega, by omega, ?_⟩
      have h7 := num_take_add l 7
      rw [List.drop_eq_getElem_cons (by omega), num, show (256 : Nat) ^ min 7 l.length = 72057594037927936 from by rw [hl8]; decide] at h7
      omega
    · exact .inr (by rw [beq_eq_false_iff_ne]; omega)
  rcases key with ⟨x7, hx7, hb, hi, hlo⟩ | hb
  all_goals
    go_enter Try.func19, Try.ntmps19
    go_wp2
    go_loop [4, 5] (fun nv i => ∃ k : Nat, k ≤ l.length ∧ i = .int .i64 k ∧ nv = .int .i64 (num (l.drop (l.length - k)))) (fun _ i => l.length - (intOf i).toNat)
    case atStart => exact ⟨0, Nat.zero_le _, rfl, by simp [num]⟩
    case round =>
      obtain ⟨k, hk, rfl, rfl⟩ := hrel
      by_cases hlt : k < l.length
      · have hx := HC.out (l.length - 1 - k) _ (bv_get l (l.length - 1 - k) (by omega))
        have hn := num_drop l k hlt
        have hle := num_drop_le l (l.length - 1 - k)
        have hcu := (l[l.length - 1 - k]'(by omega)).toNat_lt
        have hs : l.length - (k + 1) = l.length - 1 - k := by omega
        have HS := Lib.hid hs
        clear hs
        generalize hm : num (l.drop (l.length - k)) = m at *
        generalize hm' : num (l.drop (l.length - 1 - k)) = m' at *
        have HM := Lib.hid hm'
        clear hm hm'
        generalize (l[l.length - 1 - k]'(by omega)).toNat = x at *
        have hb1 : m * 256 + x < 9223372036854775808 := by omega
        have HN := Lib.hid hn
        clear hn
        have hj : (((l.length : Int) - 1 - (k : Int))).toNat = l.length - 1 - k := by omega
        go_wp2
        go_round
        case rel =>
          refine ⟨k + 1, by omega, by go_num, ?_⟩
          rw [HS.out, HM.out, HN.out]
          go_num
        case measure => simp [intOf]; omega
      · obtain rfl : k = l.length := by omega
        have he : l.drop (l.length - l.length) = l := by simp
        rw [he]
        clear he hlt
        go_wp2
        go_ret2
        exact ⟨rfl, Below.refl _ _⟩

/-- octavoref01.Int: the same answer as le.Int. -/
theorem refInt_any (l : List UInt8) (A : Option Addr) (B c : Nat) (w : World) (hl : l.length ≤ maxLen) (h : Reads w B 1 A l.length (bv l)) :
    Calls Try.prog 19 #[.slice A l.length c] w fun e w' => e = .returned (.tuple #[.int .i64 (mInt l).1, .int .i64 (mInt l).2]) ∧ Below w.heap.size w w' := by
  by_cases hw : 1 ≤ l.length ∧ l.length ≤ 8
  · by_cases hz : 9223372036854775808 ≤ num l
    · have hb : mInt l = (0, 2) := by unfold mInt; rw [if_neg (by omega), if_pos hz]
      rw [hb]
      obtain ⟨b, off, rfl, hbB, hc⟩ := h.form (by omega)
      have hlt := num_lt l
      have h8 : l.length = 8 := by
        rcases Nat.lt_or_ge l.length 8 with h7 | h7
        · have h2 : 256 ^ l.length ≤ 256 ^ 7 := Nat.pow_le_pow_right (by omega) (by omega)
          have h3 : (256 : Nat) ^ 7 = 72057594037927936 := by decide
          omega
        · omega
      refine refInt_top b off l.length (l[7]'(by omega)).toNat c w (by rw [beq_iff_eq]; omega) (by omega) (by omega) ?_ (hc 7 _ (bv_get l 7 (by omega)))
      have h7 := num_take_add l 7
      have h9 := num_take_lt l 7 (by omega)
      rw [List.drop_eq_getElem_cons (by omega), num, show (256 : Nat) ^ min 7 l.length = 72057594037927936 from by rw [h8]; decide, List.drop_of_length_le (by omega), num] at h7
      rw [show (256 : Nat) ^ 7 = 72057594037927936 from by decide] at h9
      omega
    · have hb : mInt l = ((num l : Int), 0) := by unfold mInt; rw [if_neg (by omega), if_neg hz]
      rw [hb]
      exact refInt_ok l A B c w hw.1 hw.2 (by omega) h
  · have hb : mInt l = (0, 1) := by unfold mInt; rw [if_pos hw]
    rw [hb]
    exact (refInt_arg l A c w hl hw).mono fun e w' ⟨he, hw⟩ => ⟨he, by subst hw; exact Below.refl _ _⟩
end Go.Proofs.Ytgpjhcpiemdbcaa
