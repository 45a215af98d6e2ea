/- Contracts of octavoref01.Same (are two slices of bytes the same?) and le.Int (for every slice of bytes the answer that the document gives). Conditions: the slices read as the lists that are named. -/
import Derived.Test.YtklpljkjknncgaaLeA
import Derived.BigQuiet
import Derived.Deep.QuietTactic
namespace Go.Proofs.Ytklpljkjknncgaa
open Go.RowKit

set_option maxHeartbeats 400000 in
theorem same_any (l m : List UInt8) (A A' : Option Addr) (B B' c c' : Nat) (w : World) (hl : l.length ≤ maxLen) (hm : m.length ≤ maxLen) (h : Reads w B 1 A l.length (bv l)) (h' : Reads w B' 1 A' m.length (bv m)) :
    Calls Try.prog 14 #[.slice A l.length c, .slice A' m.length c'] w fun e w' => e = .returned (.bool (decide (l = m))) ∧ Below w.heap.size w w' := by
  unfold maxLen at hl hm
  by_cases hlen : l.length = m.length
  · have hb : ((l.length : Int) != (m.length : Int)) = false := by rw [bne_eq_false_iff_eq]; omega
    have HL := Lib.hid hlen
    clear hlen
    go_enter Try.func14, Try.ntmps14
    go_wp2
    go_loopw [5] (fun i wr => ∃ k : Nat, k ≤ l.length ∧ i = .int .i64 k ∧ Hid (l.take k = m.take k) ∧ Below w.heap.size w wr) (fun i _ => l.length - (intOf i).toNat)
    case atStart => exact ⟨0, Nat.zero_le _, rfl, by simp [Hid], Below.refl _ _⟩
    case round =>
      obtain ⟨k, hk, rfl, ht, hbel⟩ := hrel
      by_cases hlt : k < l.length
      · obtain ⟨b, off, rfl, hbB, hc⟩ := (h.over hbel).form (by omega)
        obtain ⟨b', off', rfl, hbB', hc'⟩ := (h'.over hbel).form (by have := HL.out; omega)
        have hlt' : k < m.length := by have := HL.out; omega
        have hi : (k : Int) < (l.length : Int) := by omega
        have hi' : (k : Int) < (m.length : Int) := by omega
        have hx := hc k _ (bv_get l k hlt)
        have hx' := hc' k _ (bv_get m k (by have := HL.out; omega))
        by_cases hxy : l[k] = m[k]
        · have hd : ((l[k].toNat : Int) != (m[k].toNat : Int)) = false := by rw [bne_eq_false_iff_eq, hxy]
          have HX := Lib.hid hxy
          clear hxy
          go_wp2
          go_quiet (fail)
          go_wp2
          go_roundw
          case rel =>
            refine ⟨k + 1, by omega, by go_num, ?_, below_drewN hbel _⟩
            show l.take (k + 1) = m.take (k + 1)
            rw [List.take_succ_eq_append_getElem hlt, List.take_succ_eq_append_getElem hlt', ht.out, HX.out]
          case measure => simp [intOf]; omega
        · have hd : ((l[k].toNat : Int) != (m[k].toNat : Int)) = true := by
            rw [bne_iff_ne]
            intro e
            exact hxy (UInt8.toNat_inj.1 (by omega))
          have hne : decide (l = m) = false := by
            rw [decide_eq_false_iff_not]
            rintro rfl
            exact hxy rfl
          have HX := Lib.hid hxy
          have HN := Lib.hid hne
          clear hxy hne
          go_wp2
          go_quiet (fail)
          go_wp2
          go_ret
          rw [HN.out]
          exact ⟨rfl, below_drewN hbel _⟩
      · have hk' : k = l.length := by omega
        have he : decide (l = m) = true := by
          rw [decide_eq_true_iff]
          have := ht.out
          rwa [List.take_of_length_le (by omega), List.take_of_length_le (by have := HL.out; omega)] at this
        have HE := Lib.hid he
        clear he hk'
        go_wp2
        go_ret
        rw [HE.out]
        exact ⟨rfl, hbel⟩
  · have hb : ((l.length : Int) != (m.length : Int)) = true := by rw [bne_iff_ne]; omega
    have hne : decide (l = m) = false := by
      rw [decide_eq_false_iff_not]
      rintro rfl
      exact hlen rfl
    have HN := Lib.hid hne
    clear hne
    go_enter Try.func14, Try.ntmps14
    go_wp2
    go_ret
    rw [HN.out]
    exact ⟨rfl, Below.refl _ _⟩

theorem leInt_arg (l : List UInt8) (A : Option Addr) (c : Nat) (w : World) (hl : l.length ≤ maxLen) (h : ¬ (1 ≤ l.length ∧ l.length ≤ 8)) :
    Calls Try.prog 16 #[.slice A l.length c] w fun e w' => e = .returned (.tuple #[.int .i64 0, .int .i64 1]) ∧ w = w' := by
  unfold maxLen at hl
  go_enter Try.func16, Try.ntmps16
  go_wp2_with (go_at_call 27; refine (isWidth_no _ _ (by omega)).mono ?_; rintro e w' ⟨rfl, rfl⟩)
  go_ret2
  exact ⟨rfl, rfl⟩

set_option maxHeartbeats 400000 in
theorem leInt_ok (l : List UInt8) (A : Option Addr) (B c : Nat) (w : World) (h1 : 1 ≤ l.length) (h8 : l.length ≤ 8) (h : Reads w B 1 A l.length (bv l)) :
    Calls Try.prog 16 #[.slice A l.length c] w fun e w' => e = .returned (.tuple #[.int .i64 (mInt l).1, .int .i64 (mInt l).2]) ∧ w = w' := by
  obtain ⟨b, off, rfl, hbB, hc⟩ := h.form (by omega)
  go_enter Try.func16, Try.ntmps16
  go_wp2_with (go_at_call 27; refine (isWidth_yes _ _ (by omega) (by omega)).mono ?_; rintro e w' ⟨rfl, rfl⟩)
  go_loop [4, 13] (fun nv i => ∃ k m : Nat, k ≤ l.length ∧ i = .int .i64 k ∧ nv = .int .u64 m ∧ m < 18446744073709551616 ∧ Hid (m = num (l.take k))) (fun _ i => l.length - (intOf i).toNat)
  case atStart => exact ⟨0, 0, Nat.zero_le _, rfl, rfl, by omega, by simp [Hid, num]⟩
  case round =>
    obtain ⟨k, m, hk, rfl, rfl, hm, hmk⟩ := hrel
    by_cases hlt : k < l.length
    · have hx := hc k _ (bv_get l k hlt)
      go_wp2
      go_round
      case rel =>
        rw [hmk.out, or_shift l k hlt h8]
        refine ⟨k + 1, num (l.take (k + 1)), by omega, by go_num, rfl, ?_, rfl⟩
        have := num_take_lt l (k + 1) (by omega)
        have h2 : 256 ^ (k + 1) ≤ 256 ^ 8 := Nat.pow_le_pow_right (by omega) (by omega)
        have h7 : (256 : Nat) ^ 8 = 18446744073709551616 := by decide
        omega
      case measure => simp [intOf]; omega
    · obtain rfl : k = l.length := by omega
      clear hlt
      have hm' : m = num l := by rw [hmk.out, List.take_length]
      subst hm'
      by_cases hz : 9223372036854775808 ≤ num l
      · have hb : mInt l = (0, 2) := by unfold mInt; rw [if_neg (by omega), if_pos hz]
        have HB := Lib.hid hb
        clear hb
        go_wp2
        go_ret2
        rw [HB.out]
        exact ⟨rfl, rfl⟩
      · have hb : mInt l = ((num l : Int), 0) := by unfold mInt; rw [if_neg (by omega), if_neg hz]
        have HB := Lib.hid hb
        clear hb
        go_wp2
        go_ret2
        rw [HB.out]
        exact ⟨rfl, rfl⟩

/-- le.Int: for every slice of bytes. -/
theorem leInt_any (l : List UInt8) (A : Option Addr) (B c : Nat) (w : World) (hl : l.length ≤ maxLen) (h : Reads w B 1 A l.length (bv l)) :
    Calls Try.prog 16 #[.slice A l.length c] w fun e w' => e = .returned (.tuple #[.int .i64 (mInt l).1, .int .i64 (mInt l).2]) ∧ w = w' := by
  by_cases hw : 1 ≤ l.length ∧ l.length ≤ 8
  · exact leInt_ok l A B c w hw.1 hw.2 h
  · have hb : mInt l = (0, 1) := by unfold mInt; rw [if_pos hw]
    rw [hb]
    exact leInt_arg l A c w hl hw
end Go.Proofs.Ytklpljkjknncgaa
