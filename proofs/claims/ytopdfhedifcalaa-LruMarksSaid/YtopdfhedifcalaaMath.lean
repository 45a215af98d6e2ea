/- Plain facts on numbers as bytes, the lowest byte first, and on bytes as values. No conditions but those that each theorem names. -/
import Derived.Test.YtopdfhedifcalaaWords
import Derived.Laws.BitsAllLaws
import Derived.Laws.BitsLemmas
import Derived.Laws.Bits64
namespace Go.Proofs.Ytopdfhedifcalaa
open Go.RowKit

/-- k bytes of n, the lowest first. -/
def digs : Nat → Nat → List UInt8
  | _, 0 => []
  | n, k + 1 => UInt8.ofNat n :: digs (n / 256) k

/-- The number of which the list is the bytes. -/
def num : List UInt8 → Nat
  | [] => 0
  | c :: t => c.toNat + 256 * num t

/-- Bytes as values. -/
def bv (l : List UInt8) : List Value := l.map fun c => .int .u8 (c.toNat : Int)

theorem bv_length (l : List UInt8) : (bv l).length = l.length := by simp [bv]
theorem bv_append (l m : List UInt8) : bv (l ++ m) = bv l ++ bv m := by simp [bv]
theorem bv_one (l : List UInt8) : ∀ u ∈ bv l, u.oneCell' = true := by
  intro u hu
  obtain ⟨c, _, rfl⟩ := List.mem_map.1 hu
  rfl
theorem bv_get (l : List UInt8) (k : Nat) (h : k < l.length) : (bv l)[k]? = some (.int .u8 (l[k].toNat : Int)) := by
  simp [bv, List.getElem?_map, List.getElem?_eq_getElem h]

theorem digs_length (n k : Nat) : (digs n k).length = k := by
  induction k generalizing n with
  | zero => rfl
  | succ k ih => simp [digs, ih]

theorem toNat_ofNat (n : Nat) : (UInt8.ofNat n).toNat = n % 256 := by simp

theorem num_digs (n k : Nat) : num (digs n k) = n % 256 ^ k := by
  induction k generalizing n with
  | zero => simp [digs, num, Nat.mod_one]
  | succ k ih =>
    rw [digs, num, ih, toNat_ofNat, Nat.pow_succ, Nat.mul_comm (256 ^ k) 256, Nat.mod_mul]

theorem num_lt (l : List UInt8) : num l < 256 ^ l.length := by
  induction l with
  | nil => simp [num]
  | cons c t ih =>
    rw [num, List.length_cons, Nat.pow_succ]
    have := c.toNat_lt
    omega

theorem digs_num (l : List UInt8) : digs (num l) l.length = l := by
  induction l with
  | nil => rfl
  | cons c t ih =>
    rw [List.length_cons, digs, num]
    have h := c.toNat_lt
    have h1 : (c.toNat + 256 * num t) / 256 = num t := by omega
    have h2 : UInt8.ofNat (c.toNat + 256 * num t) = c := by
      apply UInt8.toNat_inj.1
      rw [toNat_ofNat]
      omega
    rw [h1, ih, h2]

theorem num_append (l m : List UInt8) : num (l ++ m) = num l + 256 ^ l.length * num m := by
  induction l with
  | nil => simp [num]
  | cons c t ih =>
    rw [List.cons_append, num, num, ih, List.length_cons, Nat.pow_succ, Nat.mul_comm (256 ^ t.length) 256, Nat.mul_add, Nat.mul_assoc]
    omega

theorem digs_snoc (n k : Nat) : digs n (k + 1) = digs n k ++ [UInt8.ofNat (n / 256 ^ k)] := by
  induction k generalizing n with
  | zero => simp [digs]
  | succ k ih =>
    rw [digs, ih (n / 256), digs, List.cons_append, Nat.pow_succ, Nat.mul_comm (256 ^ k) 256, Nat.div_div_eq_div_mul]

/-- The j-th byte of n. -/
def dig (n j : Nat) : Nat := n / 256 ^ j % 256
theorem digs_get (n k j : Nat) (h : j < k) : (digs n k)[j]? = some (UInt8.ofNat (n / 256 ^ j)) := by
  induction k generalizing n j with
  | zero => omega
  | succ k ih =>
    rw [digs]
    cases j with
    | zero => simp
    | succ j =>
      rw [List.getElem?_cons_succ, ih _ _ (by omega), Nat.pow_succ, Nat.mul_comm (256 ^ j) 256, Nat.div_div_eq_div_mul]
theorem bv_digs_get (n k j : Nat) (h : j < k) : (bv (digs n k))[j]? = some (.int .u8 (dig n j : Int)) := by
  simp only [bv, List.getElem?_map, digs_get n k j h, Option.map_some, toNat_ofNat, dig]

theorem bv_digs_snoc (n k : Nat) : bv (digs n (k + 1)) = bv (digs n k) ++ [.int .u8 (dig n k : Int)] := by
  rw [digs_snoc, bv_append]
  simp only [bv, List.map_cons, List.map_nil, toNat_ofNat, dig]
theorem own_ge {w : World} {base : Nat} {e : TypeId} {size n : Nat} {v : Value} {xs : List Value} (h : w.ownsRow base e size v n xs) : ∀ g, v.ownBlock = some g → base ≤ g := by
  intro g hg
  rcases h.2 with ⟨rfl, _⟩ | ⟨g', cap, cur, rfl, hb, _⟩
  · simp [Value.ownBlock] at hg
  · have : g' = g := by simpa [Value.ownBlock] using hg
    omega
theorem own_nil (w : World) (base : Nat) (e : TypeId) (size : Nat) : w.ownsRow base e size (.slice none 0 0) 0 [] := ⟨by simp, .inl ⟨rfl, rfl⟩⟩

/-- A row of a block of its own, read as a list. -/
theorem own_of_row {w : World} {base g : Nat} {t : TypeId} {n : Nat} {f : Nat → Value} {xs : List Value} (h : w.rowIs g t n f) (hb : base ≤ g) (hn : n ≤ maxLen) (hl : xs.length = n) (hx : ∀ j, j < n → xs[j]? = some (f j)) :
    w.ownsRow base t 1 (.slice (some ⟨g, 0, none⟩) n n) n xs := by
  obtain ⟨c, hc, hcs, hcf⟩ := h
  refine ⟨by omega, .inr ⟨g, n, c, rfl, hb, hc, Nat.le_refl _, hn, by omega, ?_⟩⟩
  apply List.ext_getElem?
  intro j
  by_cases hj : j < n
  · rw [List.getElem?_take, if_pos (by omega), hx j hj, ← hcf j hj]
    simp
  · rw [List.getElem?_eq_none (by simp; omega), List.getElem?_eq_none (by omega)]

theorem num_take_succ (l : List UInt8) (k : Nat) (h : k < l.length) : num (l.take (k + 1)) = num (l.take k) + 256 ^ k * l[k].toNat := by
  rw [List.take_succ_eq_append_getElem h, num_append, List.length_take, Nat.min_eq_left (by omega), num, num, Nat.mul_zero, Nat.add_zero]
theorem num_take_lt (l : List UInt8) (k : Nat) (h : k ≤ l.length) : num (l.take k) < 256 ^ k := by
  have := num_lt (l.take k)
  rwa [List.length_take, Nat.min_eq_left h] at this
theorem or_shift (l : List UInt8) (k : Nat) (hk : k < l.length) (h8 : l.length ≤ 8) :
    bits .or .u64 (num (l.take k) : Int) (IntKind.u64.wrap (IntKind.u64.wrap (l[k].toNat : Int) * 2 ^ (8 * k))) = (num (l.take (k + 1)) : Int) := by
  have hx := l[k].toNat_lt
  have hm := num_take_lt l k (by omega)
  have hp : (2 : Nat) ^ (8 * k) = 256 ^ k := by rw [Nat.pow_mul]
  have hk8 : 256 ^ k ≤ 256 ^ 7 := Nat.pow_le_pow_right (by omega) (by omega)
  have hy : l[k].toNat * 256 ^ k ≤ 255 * 256 ^ k := Nat.mul_le_mul_right _ (by omega)
  have h7 : (256 : Nat) ^ 7 = 72057594037927936 := by decide
  rw [num_take_succ l k hk]
  have e1 : IntKind.u64.wrap (l[k].toNat : Int) = (l[k].toNat : Int) := by rw [IntKind.wrap_u64]; omega
  have e2 : ((l[k].toNat : Int) * 2 ^ (8 * k)) = ((l[k].toNat * 256 ^ k : Nat) : Int) := by rw [← hp]; simp
  have e3 : IntKind.u64.wrap ((l[k].toNat * 256 ^ k : Nat) : Int) = ((l[k].toNat * 256 ^ k : Nat) : Int) := by rw [IntKind.wrap_u64]; omega
  rw [e1, e2, e3, u64_or_nat _ _ (by omega) (by omega)]
  congr 1
  rw [← hp] at hm ⊢
  rw [Nat.or_comm, ← Nat.shiftLeft_eq, ← Nat.shiftLeft_add_eq_or_of_lt hm, Nat.shiftLeft_eq, Nat.mul_comm (2 ^ (8 * k)), Nat.add_comm]

/-- What Bytes answers: the bytes and the error. -/
def mBytes (n width : Int) : List UInt8 × Int :=
  if ¬ (1 ≤ width ∧ width ≤ 8) ∨ n < 0 then ([], 1)
  else if 256 ^ width.toNat ≤ n.toNat then ([], 2)
  else (digs n.toNat width.toNat, 0)

/-- What Int answers: the number and the error. -/
def mInt (l : List UInt8) : Int × Int :=
  if ¬ (1 ≤ l.length ∧ l.length ≤ 8) then (0, 1)
  else if 9223372036854775808 ≤ num l then (0, 2)
  else ((num l : Int), 0)

/-- Where a slice that is not empty lies, and its cells. -/
theorem Reads.form {w : World} {B n : Nat} {A : Option Addr} {xs : List Value} (h : Reads w B 1 A n xs) (hn : 0 < n) :
    ∃ b off, A = some ⟨b, off, none⟩ ∧ b < B ∧ ∀ j u, xs[j]? = some u → w.cell? ⟨b, off + j, none⟩ = some u := by
  obtain ⟨⟨b, off, spot⟩, rfl, hb, hc⟩ := h.2 hn
  have hl := h.1
  have h0 := hc 0 _ (List.getElem?_eq_getElem (show 0 < xs.length by omega))
  have hspot : spot = none := by simpa [Addr.add] using World.cell?_spot h0
  subst hspot
  refine ⟨b, off, rfl, hb, fun j u hu => ?_⟩
  have := hc j u hu
  unfold Addr.add at this
  by_cases hj : j = 0
  · subst hj; simpa using this
  · simpa [hj] using this
theorem lt_of_cell {w : World} {p : Addr} {u : Value} (h : w.cell? p = some u) : p.block < w.heap.size := by
  rcases Nat.lt_or_ge p.block w.heap.size with hlt | hge
  · exact hlt
  · simp [World.cell?, Array.getElem?_eq_none hge] at h
theorem Reads.here {w : World} {B n : Nat} {A : Option Addr} {xs : List Value} (h : Reads w B 1 A n xs) : Reads w w.heap.size 1 A n xs :=
  ⟨h.1, fun hn => by
    obtain ⟨ad, e, _, hc⟩ := h.2 hn
    have hl := h.1
    have h0 := lt_of_cell (hc 0 _ (List.getElem?_eq_getElem (show 0 < xs.length by omega)))
    rw [block_of_add] at h0
    exact ⟨ad, e, h0, hc⟩⟩
theorem Reads.over {w w' : World} {B n : Nat} {A : Option Addr} {xs : List Value} (h : Reads w B 1 A n xs) (hb : Below w.heap.size w w') : Reads w' w.heap.size 1 A n xs := h.here.below hb
theorem own_form {w : World} {base : Nat} {e : TypeId} {v : Value} {n : Nat} {xs : List Value} (h : w.ownsRow base e 1 v n xs) :
    ∃ A c, v = .slice A n c ∧ n ≤ c ∧ c ≤ maxLen ∧ Reads w w.heap.size 1 A n xs ∧ ∀ ad, A = some ad → base ≤ ad.block ∧ ad.block < w.heap.size := by
  rcases h.2 with ⟨rfl, rfl⟩ | ⟨g, cap, cur, rfl, hb, hh, hc, hm, _⟩
  · exact ⟨_, _, rfl, Nat.le_refl _, by simp [maxLen], Reads.of_own h, fun ad e => by cases e⟩
  · refine ⟨_, _, rfl, hc, hm, Reads.of_own h, fun ad e => ?_⟩
    injection e with e
    subst e
    exact ⟨hb, Blk.lt hh⟩
theorem Reads.take {w : World} {B n m : Nat} {A : Option Addr} {xs : List Value} (h : Reads w B 1 A m xs) (hn : n ≤ m) : Reads w B 1 A n (xs.take n) := by
  have hl := h.1
  refine ⟨by rw [List.length_take]; omega, fun h0 => ?_⟩
  obtain ⟨ad, e, hb, hc⟩ := h.2 (by omega)
  refine ⟨ad, e, hb, fun j u hu => hc j u ?_⟩
  rw [List.getElem?_take] at hu
  by_cases hj : j < n
  · rwa [if_pos hj] at hu
  · rw [if_neg hj] at hu
    cases hu
theorem bv_take_drop (l : List UInt8) (p n : Nat) : bv ((l.drop p).take n) = ((bv l).drop (p * 1)).take n := by
  simp [bv, List.map_take, List.map_drop]
theorem Reads.far {w : World} {B n : Nat} {A : Option Addr} {xs : List Value} (h : Reads w B 1 A n xs) {p : Addr} (hp : ∀ ad, A = some ad → ad.block ≠ p.block) (u : Value) : Reads (w.setCell p u) B 1 A n xs := by
  refine ⟨h.1, fun hn => ?_⟩
  obtain ⟨ad, e, hb, hc⟩ := h.2 hn
  refine ⟨ad, e, hb, fun j u' hu => ?_⟩
  rw [World.cell?_setCell_other _ _ _ _ (fun e' => hp ad e (by have := congrArg Addr.block e'; rw [block_of_add] at this; exact this.symm))]
  exact hc j u' hu
theorem own_base {w : World} {base base' : Nat} {e : TypeId} {size n : Nat} {v : Value} {xs : List Value} (h : w.ownsRow base e size v n xs) (hb : base' ≤ base) : w.ownsRow base' e size v n xs := by
  refine ⟨h.1, ?_⟩
  rcases h.2 with h0 | ⟨g, cap, cur, h1, h2, h3⟩
  · exact .inl h0
  · exact .inr ⟨g, cap, cur, h1, by omega, h3⟩
theorem own_reads {w : World} {base : Nat} {e : TypeId} {v : Value} {n : Nat} {xs : List Value} (h : w.ownsRow base e 1 v n xs) :
    ∃ A c, v = .slice A n c ∧ n ≤ c ∧ Reads w w.heap.size 1 A n xs := by
  rcases h.2 with ⟨rfl, rfl⟩ | ⟨g, cap, cur, rfl, _, _, hc, _⟩
  · exact ⟨_, _, rfl, Nat.le_refl _, Reads.of_own h⟩
  · exact ⟨_, _, rfl, hc, Reads.of_own h⟩
end Go.Proofs.Ytopdfhedifcalaa
