/- Plain facts on a byte with one bit turned, and on the sum of bytes of which one is another. Conditions: those that each theorem names. -/
import Derived.Test.YtgpjhcpiemdbcaaCrcMath
import Derived.Test.YtgpjhcpiemdbcaaMath
namespace Go.Proofs.Ytgpjhcpiemdbcaa
open Go.RowKit

/-- A byte with one bit turned. -/
def turned (x : UInt8) (k : Nat) : UInt8 := UInt8.ofNat (x.toNat ^^^ 2 ^ k)
theorem pow_8 {k : Nat} (hk : k < 8) : 2 ^ k < 256 := Nat.lt_of_le_of_lt (Nat.pow_le_pow_right (n := 2) (by omega) (show k ≤ 7 by omega)) (by omega)
theorem turned_toNat (x : UInt8) (k : Nat) (hk : k < 8) : (turned x k).toNat = x.toNat ^^^ 2 ^ k := by
  rw [turned, toNat_ofNat, Nat.mod_eq_of_lt (Nat.xor_lt_two_pow (n := 8) x.toNat_lt (pow_8 hk))]
theorem turn_val (x : UInt8) (k : Nat) (hk : k < 8) : bits .xor .u8 (x.toNat : Int) (2 ^ k % 256) = ((turned x k).toNat : Int) := by
  have hp := pow_8 hk
  have e : (2 : Int) ^ k % 256 = ((2 ^ k : Nat) : Int) := by
    rw [Int.emod_eq_of_lt]
    · simp
    · exact Int.pow_nonneg (by omega)
    · have : ((2 ^ k : Nat) : Int) < 256 := by omega
      simpa using this
  rw [e, u8_xor_nat _ _ x.toNat_lt hp, turned_toNat x k hk]
theorem turn_ne (x : UInt8) (k : Nat) (hk : k < 8) : x ≠ turned x k := by
  intro h
  have h1 := congrArg UInt8.toNat h
  rw [turned_toNat x k hk] at h1
  have h2 := congrArg (x.toNat ^^^ ·) h1
  simp only [Nat.xor_self, ← Nat.xor_assoc, Nat.zero_xor] at h2
  have := Nat.pow_pos (n := k) (show 0 < 2 by omega)
  omega
theorem sumOf_set (l : List UInt8) (k : Nat) (d : UInt8) (h : k < l.length) (hd : l[k] ≠ d) : sumOf l ≠ sumOf (l.set k d) := by
  have e1 : l = l.take k ++ l[k] :: l.drop (k + 1) := by
    rw [← List.drop_eq_getElem_cons h, List.take_append_drop]
  have e2 : l.set k d = l.take k ++ d :: l.drop (k + 1) := List.set_eq_take_append_cons_drop.trans (if_pos h)
  rw [e2]
  conv => lhs; rw [e1]
  exact sumOf_ne _ _ _ _ hd
end Go.Proofs.Ytgpjhcpiemdbcaa
