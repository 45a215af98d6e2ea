/- Plain facts on the 32-bit sum: moving on is linear, loses nothing, and the sum of two texts is the joined one. No conditions but those that are named. -/
import Derived.Laws.BitsAllLaws
namespace Go.Proofs.Ytgpjhcpiemdbcaa

/-- Halved, and turned if it was odd. -/
def half (s : Nat) : Nat := if s % 2 = 1 then s / 2 ^^^ 3988292384 else s / 2
def halves : Nat → Nat → Nat
  | 0, s => s
  | k + 1, s => halves k (half s)
/-- Moved on by a byte. -/
def mv (s : Nat) : Nat := halves 8 s
def mvs : Nat → Nat → Nat
  | 0, s => s
  | n + 1, s => mvs n (mv s)
/-- The state behind the bytes. -/
def reg (s : Nat) (l : List UInt8) : Nat := l.foldl (fun s b => mv (s ^^^ b.toNat)) s
def sumOf (l : List UInt8) : Nat := reg 4294967295 l ^^^ 4294967295
def joinOf (a b n : Nat) : Nat := mvs n a ^^^ b

theorem xor_div2 (a b : Nat) : (a ^^^ b) / 2 = a / 2 ^^^ b / 2 := by
  have h : ∀ n : Nat, n / 2 = n >>> 1 := fun n => by rw [Nat.shiftRight_eq_div_pow]
  rw [h, h, h, Nat.shiftRight_xor_distrib]
theorem xor_mod2 (a b : Nat) : (a ^^^ b) % 2 = (a + b) % 2 := by
  have := Nat.xor_mod_two_eq_one (a := a) (b := b)
  omega

theorem xor_cancel (a b : Nat) : a ^^^ b ^^^ b = a := by rw [Nat.xor_assoc, Nat.xor_self, Nat.xor_zero]
theorem xor_right_comm (a b c : Nat) : a ^^^ b ^^^ c = a ^^^ c ^^^ b := by rw [Nat.xor_assoc, Nat.xor_comm b c, ← Nat.xor_assoc]
theorem xor_four (a b c d : Nat) : (a ^^^ b) ^^^ (c ^^^ d) = (a ^^^ c) ^^^ (b ^^^ d) := by
  rw [Nat.xor_assoc, ← Nat.xor_assoc b c d, Nat.xor_comm b c, Nat.xor_assoc c b d, ← Nat.xor_assoc]

theorem half_xor (a b : Nat) : half (a ^^^ b) = half a ^^^ half b := by
  unfold half
  rw [xor_mod2, xor_div2]
  rcases Nat.mod_two_eq_zero_or_one a with ha | ha <;> rcases Nat.mod_two_eq_zero_or_one b with hb | hb
  · rw [if_neg (by omega), if_neg (by omega), if_neg (by omega)]
  · rw [if_pos (by omega), if_neg (by omega), if_pos hb, Nat.xor_assoc]
  · rw [if_pos (by omega), if_pos ha, if_neg (by omega), xor_right_comm]
  · rw [if_neg (by omega), if_pos ha, if_pos hb, xor_four, Nat.xor_self, Nat.xor_zero]
theorem halves_xor (k a b : Nat) : halves k (a ^^^ b) = halves k a ^^^ halves k b := by
  induction k generalizing a b with
  | zero => rfl
  | succ k ih => rw [halves, half_xor, ih]; rfl
theorem mv_xor (a b : Nat) : mv (a ^^^ b) = mv a ^^^ mv b := halves_xor 8 a b
theorem mvs_xor (n a b : Nat) : mvs n (a ^^^ b) = mvs n a ^^^ mvs n b := by
  induction n generalizing a b with
  | zero => rfl
  | succ n ih => rw [mvs, mv_xor, ih]; rfl
theorem mvs_add (n m a : Nat) : mvs (n + m) a = mvs m (mvs n a) := by
  induction n generalizing a with
  | zero => rw [Nat.zero_add]; rfl
  | succ n ih => rw [Nat.succ_add, mvs, ih]; rfl
theorem mvs_succ (n a : Nat) : mvs (n + 1) a = mv (mvs n a) := by rw [mvs_add]; rfl

theorem half_lt {s : Nat} (h : s < 4294967296) : half s < 4294967296 := by
  unfold half
  split
  · exact Nat.xor_lt_two_pow (n := 32) (by omega) (by omega)
  · omega
theorem halves_lt (k : Nat) {s : Nat} (h : s < 4294967296) : halves k s < 4294967296 := by
  induction k generalizing s with
  | zero => exact h
  | succ k ih => exact ih (half_lt h)
theorem mv_lt {s : Nat} (h : s < 4294967296) : mv s < 4294967296 := halves_lt 8 h
theorem mvs_lt (n : Nat) {s : Nat} (h : s < 4294967296) : mvs n s < 4294967296 := by
  induction n generalizing s with
  | zero => exact h
  | succ n ih => exact ih (mv_lt h)
theorem xor_lt {a b : Nat} (ha : a < 4294967296) (hb : b < 4294967296) : a ^^^ b < 4294967296 := Nat.xor_lt_two_pow (n := 32) ha hb
theorem xor_byte_lt {a : Nat} (c : UInt8) (ha : a < 4294967296) : a ^^^ c.toNat < 4294967296 := xor_lt ha (by have := c.toNat_lt; omega)
theorem reg_lt (l : List UInt8) {s : Nat} (h : s < 4294967296) : reg s l < 4294967296 := by
  induction l generalizing s with
  | nil => exact h
  | cons c l ih => exact ih (mv_lt (xor_byte_lt c h))
theorem sumOf_lt (l : List UInt8) : sumOf l < 4294967296 := xor_lt (reg_lt l (by omega)) (by omega)

theorem reg_append (s : Nat) (x y : List UInt8) : reg s (x ++ y) = reg (reg s x) y := by unfold reg; rw [List.foldl_append]
theorem reg_snoc (s : Nat) (x : List UInt8) (c : UInt8) : reg s (x ++ [c]) = mv (reg s x ^^^ c.toNat) := by rw [reg_append]; rfl
theorem reg_xor (l : List UInt8) (s t : Nat) : reg (s ^^^ t) l = reg s l ^^^ mvs l.length t := by
  induction l generalizing s t with
  | nil => rfl
  | cons c l ih =>
    show reg (mv (s ^^^ t ^^^ c.toNat)) l = reg (mv (s ^^^ c.toNat)) l ^^^ mvs (l.length + 1) t
    rw [xor_right_comm, mv_xor, ih]
    rfl
/-- The sum of two texts, one behind the other. -/
theorem sumOf_append (x y : List UInt8) : sumOf (x ++ y) = joinOf (sumOf x) (sumOf y) y.length := by
  unfold joinOf
  have h : reg 4294967295 x = 4294967295 ^^^ sumOf x := by
    unfold sumOf
    rw [Nat.xor_comm (reg _ _), ← Nat.xor_assoc, Nat.xor_self, Nat.zero_xor]
  conv => lhs; unfold sumOf
  rw [reg_append, h, reg_xor, Nat.xor_comm (reg _ _), Nat.xor_assoc]
  rfl
theorem joinOf_groups (a b c n m : Nat) : joinOf (joinOf a b n) c m = joinOf a (joinOf b c m) (n + m) := by
  unfold joinOf
  rw [mvs_xor, mvs_add, Nat.xor_assoc]

theorem half_zero {s : Nat} (hs : s < 4294967296) (h : half s = 0) : s = 0 := by
  unfold half at h
  split at h
  · exfalso
    have h1 : s / 2 = 3988292384 := by
      have := congrArg (· ^^^ 3988292384) h
      simpa [xor_cancel] using this
    omega
  · omega
theorem halves_zero (k : Nat) {s : Nat} (hs : s < 4294967296) (h : halves k s = 0) : s = 0 := by
  induction k generalizing s with
  | zero => exact h
  | succ k ih => exact half_zero hs (ih (half_lt hs) h)
theorem mvs_zero (n : Nat) {s : Nat} (hs : s < 4294967296) (h : mvs n s = 0) : s = 0 := by
  induction n generalizing s with
  | zero => exact h
  | succ n ih => exact halves_zero 8 hs (ih (mv_lt hs) h)
theorem mv_0 : mv 0 = 0 := by decide

/-- Two texts that differ at one byte alone have unlike sums. -/
theorem sumOf_ne (x y : List UInt8) (c d : UInt8) (h : c ≠ d) : sumOf (x ++ c :: y) ≠ sumOf (x ++ d :: y) := by
  intro he
  have h1 : reg 4294967295 (x ++ c :: y) = reg 4294967295 (x ++ d :: y) := by
    have := congrArg (· ^^^ 4294967295) he
    simpa [sumOf, xor_cancel] using this
  rw [reg_append, reg_append] at h1
  generalize reg 4294967295 x = s at h1
  change reg (mv (s ^^^ c.toNat)) y = reg (mv (s ^^^ d.toNat)) y at h1
  have hx : mv (s ^^^ d.toNat) = mv (s ^^^ c.toNat) ^^^ mv (c.toNat ^^^ d.toNat) := by
    rw [← mv_xor, Nat.xor_assoc, ← Nat.xor_assoc c.toNat, Nat.xor_self, Nat.zero_xor]
  rw [hx, reg_xor] at h1
  have h2 : mvs y.length (mv (c.toNat ^^^ d.toNat)) = 0 := by
    have := congrArg (reg (mv (s ^^^ c.toNat)) y ^^^ ·) h1
    simp only [← Nat.xor_assoc, Nat.xor_self, Nat.zero_xor] at this
    exact this.symm
  have hlt : c.toNat ^^^ d.toNat < 4294967296 := xor_byte_lt d (by have := c.toNat_lt; omega)
  have h3 := halves_zero 8 hlt (mvs_zero y.length (mv_lt hlt) h2)
  have h4 : c.toNat = d.toNat := by
    have := congrArg (· ^^^ d.toNat) h3
    simpa [xor_cancel] using this
  exact h (UInt8.toNat_inj.1 h4)

/-- Three texts of one length, their bits turned in one another. -/
def mix3 (x y z : List UInt8) : List UInt8 := (x.zip (y.zip z)).map fun p => p.1 ^^^ p.2.1 ^^^ p.2.2
theorem reg_mix (x y z : List UInt8) (hy : y.length = x.length) (hz : z.length = x.length) (s t u : Nat) : reg (s ^^^ t ^^^ u) (mix3 x y z) = reg s x ^^^ reg t y ^^^ reg u z := by
  induction x generalizing y z s t u with
  | nil =>
    obtain rfl := List.eq_nil_of_length_eq_zero hy
    obtain rfl := List.eq_nil_of_length_eq_zero hz
    rfl
  | cons a x ih =>
    cases y with
    | nil => simp at hy
    | cons b y =>
      cases z with
      | nil => simp at hz
      | cons c z =>
        have e : mix3 (a :: x) (b :: y) (c :: z) = (a ^^^ b ^^^ c) :: mix3 x y z := rfl
        rw [e]
        show reg (mv (s ^^^ t ^^^ u ^^^ (a ^^^ b ^^^ c).toNat)) (mix3 x y z) = reg (mv (s ^^^ a.toNat)) x ^^^ reg (mv (t ^^^ b.toNat)) y ^^^ reg (mv (u ^^^ c.toNat)) z
        rw [← ih y z (by simpa using hy) (by simpa using hz), ← mv_xor, ← mv_xor]
        congr 2
        rw [UInt8.toNat_xor, UInt8.toNat_xor, xor_four s a.toNat t b.toNat, xor_four (s ^^^ t) (a.toNat ^^^ b.toNat) u c.toNat]
theorem sumOf_mix (x y z : List UInt8) (hy : y.length = x.length) (hz : z.length = x.length) : sumOf (mix3 x y z) = sumOf x ^^^ sumOf y ^^^ sumOf z := by
  have h := reg_mix x y z hy hz 4294967295 4294967295 4294967295
  rw [xor_cancel] at h
  unfold sumOf
  rw [h, xor_four (reg _ x), Nat.xor_self, Nat.xor_zero, Nat.xor_assoc]

/-- Moved on by a byte: the lowest byte's own part, and the rest, shifted. -/
theorem halves_shift (k x : Nat) : halves k (x * 2 ^ k) = x := by
  induction k generalizing x with
  | zero => simp [halves]
  | succ k ih =>
    rw [halves]
    have : half (x * 2 ^ (k + 1)) = x * 2 ^ k := by
      rw [Nat.pow_succ, ← Nat.mul_assoc]
      unfold half
      rw [if_neg (by omega)]
      omega
    rw [this, ih]
theorem mv_table (s : Nat) : mv s = mv (s % 256) ^^^ s / 256 := by
  have e : s = s % 256 ^^^ s / 256 * 2 ^ 8 := by
    have h : s % 256 < 2 ^ 8 := Nat.mod_lt _ (by omega)
    rw [Nat.xor_comm, ← Nat.shiftLeft_eq]
    have := Nat.shiftLeft_add_eq_or_of_lt h (s / 256)
    rw [Nat.shiftLeft_eq] at this ⊢
    have h2 : s / 256 * 2 ^ 8 ^^^ s % 256 = s / 256 * 2 ^ 8 ||| s % 256 := by
      apply Nat.eq_of_testBit_eq
      intro i
      rw [Nat.testBit_xor, Nat.testBit_or]
      by_cases hi : i < 8
      · have : (s / 256 * 2 ^ 8).testBit i = false := by
          rw [Nat.mul_comm, Nat.testBit_two_pow_mul]
          simp; omega
        rw [this]; simp
      · have : (s % 256).testBit i = false := Nat.testBit_lt_two_pow (Nat.lt_of_lt_of_le h (Nat.pow_le_pow_right (by omega) (by omega)))
        rw [this]; simp
    rw [h2, ← this]
    omega
  conv => lhs; rw [e]
  rw [mv_xor]
  congr 1
  exact halves_shift 8 _
end Go.Proofs.Ytgpjhcpiemdbcaa
