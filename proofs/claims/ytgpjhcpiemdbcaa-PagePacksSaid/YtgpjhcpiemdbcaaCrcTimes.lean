/- Plain facts on the product of two sums: the product with a power of the unit moves on. No conditions but those that are named. -/
import Derived.Test.YtgpjhcpiemdbcaaCrcMath
namespace Go.Proofs.Ytgpjhcpiemdbcaa

theorem half_0 : half 0 = 0 := by decide
theorem halves_half (k s : Nat) : halves k (half s) = half (halves k s) := by
  induction k generalizing s with
  | zero => rfl
  | succ k ih => rw [halves, ih]; rfl
theorem halves_succ (k s : Nat) : halves (k + 1) s = half (halves k s) := halves_half k s
theorem halves_add (k m s : Nat) : halves (k + m) s = halves k (halves m s) := by
  induction k with
  | zero => rw [Nat.zero_add]; rfl
  | succ k ih => rw [Nat.succ_add, halves_succ, halves_succ, ih]
theorem halves_0 (k : Nat) : halves k 0 = 0 := by
  induction k with
  | zero => rfl
  | succ k ih => rw [halves_succ, ih, half_0]
theorem mvs_halves (n s : Nat) : mvs n s = halves (8 * n) s := by
  induction n with
  | zero => rfl
  | succ n ih => rw [mvs_succ, ih, mv, ← halves_add]; congr 1; omega

/-- The product behind so many rounds. -/
def timK : Nat → Nat → Nat → Nat
  | 0, _, _ => 0
  | k + 1, a, b => timK k a b ^^^ (if a.testBit (31 - k) then halves k b else 0)
def tim (a b : Nat) : Nat := timK 32 a b

theorem timK_half (k a b : Nat) : timK k a (half b) = half (timK k a b) := by
  induction k with
  | zero => rw [timK, timK, half_0]
  | succ k ih =>
    rw [timK, timK, half_xor, ih]
    congr 1
    split
    · exact halves_half k b
    · exact half_0.symm
theorem timK_halves (k a m b : Nat) : timK k a (halves m b) = halves m (timK k a b) := by
  induction m with
  | zero => rfl
  | succ m ih => rw [halves_succ, halves_succ, timK_half, ih]
theorem timK_lt (k a b : Nat) (hb : b < 4294967296) : timK k a b < 4294967296 := by
  induction k with
  | zero => rw [timK]; omega
  | succ k ih =>
    rw [timK]
    refine xor_lt ih ?_
    split
    · exact halves_lt k hb
    · omega
theorem half_pow (k : Nat) : half (2 ^ (k + 1)) = 2 ^ k := by
  have h : 2 ^ (k + 1) = 2 * 2 ^ k := by rw [Nat.pow_succ, Nat.mul_comm]
  unfold half
  rw [h, if_neg (by omega)]
  omega
theorem halves_unit (k : Nat) (h : k ≤ 31) : halves k (2 ^ 31) = 2 ^ (31 - k) := by
  induction k with
  | zero => rfl
  | succ k ih =>
    rw [halves_succ, ih (by omega), show 31 - k = (31 - (k + 1)) + 1 from by omega, half_pow]
theorem timK_unit_bit (k a j : Nat) (h : k ≤ 32) : (timK k a (2 ^ 31)).testBit j = (decide (32 - k ≤ j ∧ j < 32) && a.testBit j) := by
  induction k with
  | zero =>
    rw [timK, Nat.zero_testBit]
    have : ¬ (32 - 0 ≤ j ∧ j < 32) := by omega
    simp [this]
  | succ k ih =>
    rw [timK, Nat.testBit_xor, ih (by omega), halves_unit k (by omega)]
    have hp : (if a.testBit (31 - k) then 2 ^ (31 - k) else 0 : Nat).testBit j = (decide (j = 31 - k) && a.testBit j) := by
      split
      · rename_i hb
        rw [Nat.testBit_two_pow]
        by_cases hj : j = 31 - k
        · subst hj; simp [hb]
        · have : ¬ 31 - k = j := fun e => hj e.symm
          simp [hj, this]
      · rename_i hb
        rw [Nat.zero_testBit]
        by_cases hj : j = 31 - k
        · subst hj; simp [hb]
        · simp [hj]
    rw [hp]
    by_cases h1 : j = 31 - k
    · have e1 : ¬ (32 - k ≤ j ∧ j < 32) := by omega
      have e2 : 32 - (k + 1) ≤ j ∧ j < 32 := by omega
      rw [decide_eq_false e1, decide_eq_true e2, decide_eq_true h1]
      simp
    · have e : (32 - (k + 1) ≤ j ∧ j < 32) ↔ (32 - k ≤ j ∧ j < 32) := by omega
      rw [show decide (32 - (k + 1) ≤ j ∧ j < 32) = decide (32 - k ≤ j ∧ j < 32) from decide_eq_decide.2 e, decide_eq_false h1]
      simp
theorem tim_unit (a : Nat) (ha : a < 4294967296) : tim a (2 ^ 31) = a := by
  apply Nat.eq_of_testBit_eq
  intro j
  rw [tim, timK_unit_bit 32 a j (by omega)]
  by_cases h : j < 32
  · simp [h]
  · have : a.testBit j = false := Nat.testBit_lt_two_pow (Nat.lt_of_lt_of_le ha (Nat.pow_le_pow_right (n := 2) (by omega) (show 32 ≤ j by omega)))
    simp [this]
/-- The product with a power of the unit moves on. -/
theorem tim_power (a m : Nat) (ha : a < 4294967296) : tim a (halves m (2 ^ 31)) = halves m a := by
  rw [tim, timK_halves]
  congr 1
  exact tim_unit a ha
/-- The power behind so many squarings. -/
def pw (k : Nat) : Nat := halves (8 * 2 ^ k) (2 ^ 31)
theorem pw_lt (k : Nat) : pw k < 4294967296 := halves_lt _ (by omega)
theorem pw_sq (k : Nat) : tim (pw k) (pw k) = pw (k + 1) := by
  show tim (pw k) (halves (8 * 2 ^ k) (2 ^ 31)) = _
  rw [tim_power _ _ (pw_lt k), pw, pw, ← halves_add]
  congr 1
  rw [Nat.pow_succ]
  omega
theorem mvs_mod_step (n k a : Nat) (ha : a < 4294967296) : (if n / 2 ^ k % 2 = 1 then tim (mvs (n % 2 ^ k) a) (pw k) else mvs (n % 2 ^ k) a) = mvs (n % 2 ^ (k + 1)) a := by
  have hm : n % 2 ^ (k + 1) = n % 2 ^ k + 2 ^ k * (n / 2 ^ k % 2) := by
    rw [Nat.pow_succ, Nat.mod_mul]
  split
  · rename_i h
    rw [pw, tim_power _ _ (mvs_lt _ ha), hm, h, Nat.mul_one, mvs_halves, mvs_halves, ← halves_add]
    congr 1
    omega
  · rename_i h
    have h0 : n / 2 ^ k % 2 = 0 := by omega
    rw [hm, h0, Nat.mul_zero, Nat.add_zero]
theorem mvs_mod_end (n k a : Nat) (h : n / 2 ^ k = 0) : mvs (n % 2 ^ k) a = mvs n a := by
  rw [Nat.mod_eq_of_lt ((Nat.div_eq_zero_iff_lt (Nat.pow_pos (by omega))).1 h)]
end Go.Proofs.Ytgpjhcpiemdbcaa
