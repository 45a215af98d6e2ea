/- Contracts of crc.Of of one and of two parts in a row that was just made, and of octavolaw02.awake. Conditions: the slices read as the lists that are named, and their lengths are ints. -/
import Derived.Test.YtmnaaffiebighaaCrcB
import Derived.Test.YtmnaaffiebighaaFresh
import Derived.Below
import Derived.Lib.SlBytesConst
import Derived.Lib.SmallJoins
namespace Go.Proofs.Ytmnaaffiebighaa
open Go.RowKit

theorem flat_one (A : Option Addr) (l : List UInt8) (c : Nat) : flat [(A, l, c)] = l := by simp [flat]
theorem flat_two (A A' : Option Addr) (l m : List UInt8) (c c' : Nat) : flat [(A, l, c), (A', m, c')] = l ++ m := by simp [flat]
theorem reads_vals (w : World) (t : TypeId) (xs : List Value) (n : Nat) (hn : xs.length = n) : Reads (w.alloc (.cells xs.toArray t)) (w.heap.size + 1) 1 (some ⟨w.heap.size, 0, none⟩) n xs :=
  ⟨by omega, fun _ => ⟨_, rfl, by simp, cells_new w t xs⟩⟩

theorem of_one (l : List UInt8) (A : Option Addr) (B c g : Nat) (t : TypeId) (w : World) (hg : w.heap.size = g) (hl : l.length ≤ 9223372036854775807) (h : Reads w B 1 A l.length (bv l)) :
    Calls Try.prog 12 #[.slice (some ⟨g, 0, none⟩) 1 1] (w.alloc (.cells #[.slice A l.length c] t)) fun e w' => e = .returned (.int .u32 (sumOf l)) ∧ w.alloc (.cells #[.slice A l.length c] t) = w' := by
  subst hg
  have := of_any [(A, l, c)] (some ⟨w.heap.size, 0, none⟩) (w.heap.size + 1) 1 (w.alloc (.cells #[.slice A l.length c] t)) (by simp) (reads_vals w t [.slice A l.length c] 1 rfl) (by
    intro k p hk
    rcases k with _ | k
    · simp at hk
      subst hk
      exact ⟨(h.here.alloc (Nat.le_refl _) _).more (by omega), hl⟩
    · simp at hk)
  rw [flat_one] at this
  exact this
theorem of_two (l m : List UInt8) (A A' : Option Addr) (B B' c c' g : Nat) (t : TypeId) (w : World) (hg : w.heap.size = g) (hl : l.length ≤ 9223372036854775807) (hm : m.length ≤ 9223372036854775807)
    (h : Reads w B 1 A l.length (bv l)) (h' : Reads w B' 1 A' m.length (bv m)) :
    Calls Try.prog 12 #[.slice (some ⟨g, 0, none⟩) 2 2] (w.alloc (.cells #[.slice A l.length c, .slice A' m.length c'] t)) fun e w' => e = .returned (.int .u32 (sumOf (l ++ m))) ∧ w.alloc (.cells #[.slice A l.length c, .slice A' m.length c'] t) = w' := by
  subst hg
  have := of_any [(A, l, c), (A', m, c')] (some ⟨w.heap.size, 0, none⟩) (w.heap.size + 1) 2 (w.alloc (.cells #[.slice A l.length c, .slice A' m.length c'] t)) (by simp) (reads_vals w t [.slice A l.length c, .slice A' m.length c'] 2 rfl) (by
    intro k p hk
    rcases k with _ | _ | k
    · simp at hk
      subst hk
      exact ⟨(h.here.alloc (Nat.le_refl _) _).more (by omega), hl⟩
    · simp at hk
      subst hk
      exact ⟨(h'.here.alloc (Nat.le_refl _) _).more (by omega), hm⟩
    · simp at hk)
  rw [flat_two] at this
  exact this

/-- The same, of what was there before the row was made. -/
theorem of_oneB (l : List UInt8) (A : Option Addr) (B c g : Nat) (t : TypeId) (w : World) (hg : w.heap.size = g) (hl : l.length ≤ 9223372036854775807) (h : Reads w B 1 A l.length (bv l)) :
    Calls Try.prog 12 #[.slice (some ⟨g, 0, none⟩) 1 1] (w.alloc (.cells #[.slice A l.length c] t)) fun e w' => e = .returned (.int .u32 (sumOf l)) ∧ Below w.heap.size w w' :=
  (of_one l A B c g t w hg hl h).mono fun _ _ ⟨he, hw⟩ => ⟨he, by subst hw; exact (Below.refl _ _).alloc (Nat.le_refl _) _⟩
theorem of_twoB (l m : List UInt8) (A A' : Option Addr) (B B' c c' g : Nat) (t : TypeId) (w : World) (hg : w.heap.size = g) (hl : l.length ≤ 9223372036854775807) (hm : m.length ≤ 9223372036854775807)
    (h : Reads w B 1 A l.length (bv l)) (h' : Reads w B' 1 A' m.length (bv m)) :
    Calls Try.prog 12 #[.slice (some ⟨g, 0, none⟩) 2 2] (w.alloc (.cells #[.slice A l.length c, .slice A' m.length c'] t)) fun e w' => e = .returned (.int .u32 (sumOf (l ++ m))) ∧ Below w.heap.size w w' :=
  (of_two l m A A' B B' c c' g t w hg hl hm h h').mono fun _ _ ⟨he, hw⟩ => ⟨he, by subst hw; exact (Below.refl _ _).alloc (Nat.le_refl _) _⟩

theorem reads_marked (w : World) (t : TypeId) (l : List UInt8) (n : Nat) (fr : Nat × Nat) (hn : l.length = n) : Reads (w.alloc (.cells (bv l).toArray t fr)) (w.heap.size + 1) 1 (some ⟨w.heap.size, 0, none⟩) n (bv l) :=
  ⟨by simp [bv, hn], fun _ => ⟨_, rfl, by simp, fun j u hu => by
    have ha : (⟨w.heap.size, 0, none⟩ : Addr).add j = ⟨w.heap.size, j, none⟩ := by
      unfold Addr.add
      by_cases hj : j = 0
      · subst hj; rfl
      · simp [hj]
    rw [ha, cell_of_row _ w.heap.size j _ t fr (heap_alloc_new w _)]
    simpa using hu⟩⟩
theorem reads_a (w : World) (t : TypeId) (g : Nat) (hg : w.heap.size = g) : Reads ((w.alloc (.cells #[.int .u8 49, .int .u8 50, .int .u8 51, .int .u8 52] t (4, 5))).alloc (.cells #[.int .u8 53, .int .u8 54, .int .u8 55, .int .u8 56, .int .u8 57] t (5, 6))) (g + 1) 1 (some ⟨g, 0, none⟩) 4 (bv [49, 50, 51, 52]) := by
  subst hg
  exact (reads_marked w t [49, 50, 51, 52] 4 (4, 5) rfl).alloc (by simp) _
theorem reads_b (w : World) (t : TypeId) (g : Nat) (hg : w.heap.size = g) : Reads (w.alloc (.cells #[.int .u8 53, .int .u8 54, .int .u8 55, .int .u8 56, .int .u8 57] t (5, 6))) (g + 1) 1 (some ⟨g, 0, none⟩) 5 (bv [53, 54, 55, 56, 57]) := by
  subst hg
  exact reads_marked w t [53, 54, 55, 56, 57] 5 (5, 6) rfl
theorem sum_named : sumOf ([49, 50, 51, 52] ++ [53, 54, 55, 56, 57]) = 3421780262 := by decide +kernel
theorem join_named : joinOf 1 0 1 = 1996959894 := by decide +kernel

theorem of_named (w : World) (t t' : TypeId) : Calls Try.prog 12 #[.slice (some ⟨w.heap.size + 2, 0, none⟩) 2 2]
    (((w.alloc (.cells #[.int .u8 49, .int .u8 50, .int .u8 51, .int .u8 52] t (4, 5))).alloc (.cells #[.int .u8 53, .int .u8 54, .int .u8 55, .int .u8 56, .int .u8 57] t (5, 6))).alloc (.cells #[.slice (some ⟨w.heap.size, 0, none⟩) 4 4, .slice (some ⟨w.heap.size + 1, 0, none⟩) 5 5] t'))
    fun e w' => e = .returned (.int .u32 3421780262) ∧ Below w.heap.size w w' := by
  have h := of_two [49, 50, 51, 52] [53, 54, 55, 56, 57] (some ⟨w.heap.size, 0, none⟩) (some ⟨w.heap.size + 1, 0, none⟩) _ _ 4 5 (w.heap.size + 2) t'
    ((w.alloc (.cells #[.int .u8 49, .int .u8 50, .int .u8 51, .int .u8 52] t (4, 5))).alloc (.cells #[.int .u8 53, .int .u8 54, .int .u8 55, .int .u8 56, .int .u8 57] t (5, 6))) (by simp) (by simp) (by simp) (reads_a w t w.heap.size rfl) (reads_b _ t (w.heap.size + 1) (by simp))
  rw [sum_named] at h
  exact h.mono fun e w' ⟨he, hw⟩ => ⟨he, by subst hw; exact (((Below.refl _ _).alloc (Nat.le_refl _) _).alloc (by simp) _).alloc (by simp; omega) _⟩

set_option maxHeartbeats 400000 in
theorem awake_any (w : World) :
    Calls Try.prog 11 #[] w fun e w' => e = .returned (.bool true) ∧ Below w.heap.size w w' := by
  have kc := fun (W : World) (C : Array Value) (n c g : Nat) (hg : g = W.heap.size) => Go.Joins.run_convert_bytes_const_at (P := Try.prog) W 23 5 C n c g hg Try.underlying23 Try.underlying5
  have HJ := Lib.hid (fun w => join_any 1 0 1 w (by omega) (by omega) (by omega))
  go_enter Try.func11, Try.ntmps11
  go_wp2_with fail
  refine (of_named _ _ _).mono ?_
  rintro e w1 ⟨rfl, hb⟩
  go_wp2_with fail
  refine (HJ.out _).mono ?_
  rintro e w2 ⟨rfl, rfl⟩
  have hj : joinOf 1 0 (Int.toNat 1) = 1996959894 := join_named
  go_wp2
  go_ret
  exact ⟨rfl, hb⟩
end Go.Proofs.Ytmnaaffiebighaa
