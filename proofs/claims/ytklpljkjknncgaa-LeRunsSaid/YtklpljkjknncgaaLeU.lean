/- Contract of octavolaw01.one, whatever is called: it agrees, and says where the reader stands. Conditions: the reader holds the list that is named, of at most 2^47 - 4096 bytes, and the slice reads as it. -/
import Derived.Test.YtklpljkjknncgaaLeT
namespace Go.Proofs.Ytklpljkjknncgaa
open Go.RowKit

theorem one_any (kd n : Int) (A : Option Addr) (c : Nat) (w : World) (L B Bb g : Nat) (l : List UInt8) (p : Nat) (h : RdAt w L B g l p) (hl : l.length ≤ 140737488351232) (hlc : l.length ≤ c) (hcm : c ≤ maxLen)
    (hr : Reads w Bb 1 A l.length (bv l)) (hBb : Bb ≤ L) (hL : L ≤ w.heap.size) (hB : B ≤ w.heap.size) :
    Calls Try.prog 21 #[.pointer (some ⟨g, 0, none⟩), .slice A l.length c, .int .i64 p, .agg #[.int .u8 kd, .int .i64 n]] w (fun e w' => ∃ q, OneOk w L B g l q e w') := by
  have hp := h.1
  by_cases h0 : kd = 0
  · subst h0
    by_cases hn : ¬ (1 ≤ n ∧ n ≤ 8) ∨ (1 ≤ n ∧ n ≤ 8 ∧ (l.length : Int) - p < n)
    · exact (one_int_no n A c w L B g l p h hl hn).mono fun e w' hh => ⟨_, hh⟩
    · obtain ⟨k, rfl⟩ := Int.eq_ofNat_of_zero_le (show 0 ≤ n by omega)
      exact (one_int_has k A c w L B Bb g l p h hl hlc hcm hr hBb hL (by omega) (by omega) (by omega)).mono fun e w' hh => ⟨_, hh⟩
  · by_cases hn : n < 0 ∨ (0 ≤ n ∧ (l.length : Int) - p < n)
    · by_cases h1 : kd = 1
      · subst h1
        exact (one_take_no n A c w L B g l p h hl hn).mono fun e w' hh => ⟨_, hh⟩
      · exact (one_zero_no kd n A c w L B g l p (by rw [beq_eq_false_iff_ne]; exact h0) (by rw [beq_eq_false_iff_ne]; exact h1) h hl hn).mono fun e w' hh => ⟨_, hh⟩
    · obtain ⟨k, rfl⟩ := Int.eq_ofNat_of_zero_le (show 0 ≤ n by omega)
      by_cases h1 : kd = 1
      · subst h1
        exact (one_take_has k A c w L B Bb g l p h hl hlc hcm hr hBb hL hB (by omega)).mono fun e w' hh => ⟨_, hh⟩
      · by_cases hz : ∀ j, j < k → l[p + j]? = some 0
        · exact (one_zero_all kd k A c w L B Bb g l p (by rw [beq_eq_false_iff_ne]; exact h0) (by rw [beq_eq_false_iff_ne]; exact h1) h hl hr hBb hL (by omega) hz).mono fun e w' hh => ⟨_, hh⟩
        · exact (one_zero_not kd k A c w L B Bb g l p (by rw [beq_eq_false_iff_ne]; exact h0) (by rw [beq_eq_false_iff_ne]; exact h1) h hl hr hBb hL (by omega) hz).mono fun e w' hh => ⟨_, hh⟩
end Go.Proofs.Ytklpljkjknncgaa
