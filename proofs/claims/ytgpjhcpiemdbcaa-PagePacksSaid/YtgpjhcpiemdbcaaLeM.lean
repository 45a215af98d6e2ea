/- Plain facts on what Bytes answers. No conditions but those that are named. -/
import Derived.Test.YtgpjhcpiemdbcaaMath
namespace Go.Proofs.Ytgpjhcpiemdbcaa
open Go.RowKit

theorem mBytes_ok' {n width : Int} (he : (mBytes n width).2 = 0) : 1 ≤ width ∧ width ≤ 8 ∧ 0 ≤ n ∧ n.toNat < 256 ^ width.toNat ∧ mBytes n width = (digs n.toNat width.toNat, 0) := by
  unfold mBytes at he ⊢
  split at he
  · simp at he
  · rename_i h1
    split at he
    · simp at he
    · rename_i h2
      rw [if_neg h1, if_neg h2]
      exact ⟨by omega, by omega, by omega, by omega, rfl⟩
theorem mBytes_is' {n : Int} {M : Int} {W : Nat} (hM : M = W) (hw1 : 1 ≤ W) (hw8 : W ≤ 8) (h0 : 0 ≤ n) (hlt : n.toNat < 256 ^ W) : mBytes n M = (digs n.toNat W, 0) := by
  subst hM
  unfold mBytes
  rw [if_neg (by omega), if_neg (by simp only [Int.toNat_natCast]; omega)]
  rfl
theorem dig_lt (n k : Nat) : dig n k < 256 := Nat.mod_lt _ (by omega)
theorem div_step (n k : Nat) : n / 256 ^ k = 256 * (n / 256 ^ (k + 1)) + dig n k := by
  rw [Nat.pow_succ, ← Nat.div_div_eq_div_mul, dig]
  omega
theorem div_lt_of {a b c : Nat} (h : a / c < b / c) : a < b := by
  rcases Nat.lt_or_ge a b with h1 | h1
  · exact h1
  · have := Nat.div_le_div_right (c := c) h1
    omega
/-- Two numbers whose bytes above k are the same and whose bytes at k differ are ordered as these. -/
theorem order_of {n m k : Nat} (h : n / 256 ^ (k + 1) = m / 256 ^ (k + 1)) (hlt : dig n k < dig m k) : n < m :=
  div_lt_of (by rw [div_step n k, div_step m k, h]; omega)
theorem mInt_digs (n W : Nat) (h1 : 1 ≤ W) (h8 : W ≤ 8) (hlt : n < 256 ^ W) (hn : n ≤ 9223372036854775807) : mInt (digs n W) = ((n : Int), 0) := by
  unfold mInt
  rw [digs_length, if_neg (by omega), num_digs, Nat.mod_eq_of_lt hlt, if_neg (by omega)]
theorem mInt_zero {l : List UInt8} (h : (mInt l).2 ≠ 0) : (mInt l).1 = 0 := by
  unfold mInt at h ⊢
  split
  · rfl
  · rename_i h1
    rw [if_neg h1] at h
    split
    · rfl
    · rename_i h2
      rw [if_neg h2] at h
      exact absurd rfl h
theorem mInt_ok {l : List UInt8} (h : (mInt l).2 = 0) : 1 ≤ l.length ∧ l.length ≤ 8 ∧ num l ≤ 9223372036854775807 ∧ mInt l = ((num l : Int), 0) := by
  unfold mInt at h ⊢
  split
  · rename_i h1
    rw [if_pos h1] at h
    simp at h
  · rename_i h1
    rw [if_neg h1] at h
    split
    · rename_i h2
      rw [if_pos h2] at h
      simp at h
    · exact ⟨by omega, by omega, by omega, rfl⟩
theorem mBytes_num {l : List UInt8} (h1 : 1 ≤ l.length) (h8 : l.length ≤ 8) : mBytes (num l) l.length = (l, 0) := by
  have := mBytes_is' (n := (num l : Int)) (M := (l.length : Int)) rfl h1 h8 (by omega) (by simpa using num_lt l)
  rw [this]
  simp only [Int.toNat_natCast, digs_num]
end Go.Proofs.Ytgpjhcpiemdbcaa
