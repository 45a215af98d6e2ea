/- Contracts of crc.Of of one and of two parts in a row that was just made. Conditions: the slices read as the lists that are named, and their lengths are ints. -/
import Derived.Test.YtgpjhcpiemdbcaaCrcB
import Derived.Test.YtgpjhcpiemdbcaaFresh
import Derived.Below
import Derived.Lib.SlBytesConst
import Derived.Lib.SmallJoins
namespace Go.Proofs.Ytgpjhcpiemdbcaa
open Go.RowKit

theorem joinP_one (A : Option Addr) (l : List UInt8) (c : Nat) : joinP [(A, l, c)] = l := by simp [joinP]
theorem joinP_two (A A' : Option Addr) (l m : List UInt8) (c c' : Nat) : joinP [(A, l, c), (A', m, c')] = l ++ m := by simp [joinP]
theorem reads_vals (w : World) (t : TypeId) (xs : List Value) (n : Nat) (hn : xs.length = n) : Reads (w.alloc (.cells xs.toArray t)) (w.heap.size + 1) 1 (some ⟨w.heap.size, 0, none⟩) n xs :=
  ⟨by omega, fun _ => ⟨_, rfl, by simp, cells_new w t xs⟩⟩

theorem of_one (l : List UInt8) (A : Option Addr) (B c g : Nat) (t : TypeId) (w : World) (hg : w.heap.size = g) (hl : l.length ≤ 9223372036854775807) (h : Reads w B 1 A l.length (bv l)) :
    Calls Try.prog 29 #[.slice (some ⟨g, 0, none⟩) 1 1] (w.alloc (.cells #[.slice A l.length c] t)) fun e w' => e = .returned (.int .u32 (sumOf l)) ∧ w.alloc (.cells #[.slice A l.length c] t) = w' := by
  subst hg
  have := of_any [(A, l, c)] (some ⟨w.heap.size, 0, none⟩) (w.heap.size + 1) 1 (w.alloc (.cells #[.slice A l.length c] t)) (by simp) (reads_vals w t [.slice A l.length c] 1 rfl) (by
    intro k p hk
    rcases k with _ | k
    · simp at hk
      subst hk
      exact ⟨(h.here.alloc (Nat.le_refl _) _).more (by omega), hl⟩
    · simp at hk)
  rw [joinP_one] at this
  exact this
theorem of_two (l m : List UInt8) (A A' : Option Addr) (B B' c c' g : Nat) (t : TypeId) (w : World) (hg : w.heap.size = g) (hl : l.length ≤ 9223372036854775807) (hm : m.length ≤ 9223372036854775807)
    (h : Reads w B 1 A l.length (bv l)) (h' : Reads w B' 1 A' m.length (bv m)) :
    Calls Try.prog 29 #[.slice (some ⟨g, 0, none⟩) 2 2] (w.alloc (.cells #[.slice A l.length c, .slice A' m.length c'] t)) fun e w' => e = .returned (.int .u32 (sumOf (l ++ m))) ∧ w.alloc (.cells #[.slice A l.length c, .slice A' m.length c'] t) = w' := by
  subst hg
  have := of_any [(A, l, c), (A', m, c')] (some ⟨w.heap.size, 0, none⟩) (w.heap.size + 1) 2 (w.alloc (.cells #[.slice A l.length c, .slice A' m.length c'] t)) (by simp) (reads_vals w t [.slice A l.length c, .slice A' m.length c'] 2 rfl) (by
    intro k p hk
    rcases k with _ | _ | k
    · simp at hk
      subst hk
      exact ⟨(h.here.alloc (Nat.le_refl _) _).more (by omega), hl⟩
    · simp at hk
      subst hk
      exact ⟨(h'.here.alloc (Nat.le_refl _) _).more (by omega), hm⟩
    · simp at hk)
  rw [joinP_two] at this
  exact this

/-- The same, of what was there before the row was made. -/
theorem of_oneB (l : List UInt8) (A : Option Addr) (B c g : Nat) (t : TypeId) (w : World) (hg : w.heap.size = g) (hl : l.length ≤ 9223372036854775807) (h : Reads w B 1 A l.length (bv l)) :
    Calls Try.prog 29 #[.slice (some ⟨g, 0, none⟩) 1 1] (w.alloc (.cells #[.slice A l.length c] t)) fun e w' => e = .returned (.int .u32 (sumOf l)) ∧ Below w.heap.size w w' :=
  (of_one l A B c g t w hg hl h).mono fun _ _ ⟨he, hw⟩ => ⟨he, by subst hw; exact (Below.refl _ _).alloc (Nat.le_refl _) _⟩
theorem of_twoB (l m : List UInt8) (A A' : Option Addr) (B B' c c' g : Nat) (t : TypeId) (w : World) (hg : w.heap.size = g) (hl : l.length ≤ 9223372036854775807) (hm : m.length ≤ 9223372036854775807)
    (h : Reads w B 1 A l.length (bv l)) (h' : Reads w B' 1 A' m.length (bv m)) :
    Calls Try.prog 29 #[.slice (some ⟨g, 0, none⟩) 2 2] (w.alloc (.cells #[.slice A l.length c, .slice A' m.length c'] t)) fun e w' => e = .returned (.int .u32 (sumOf (l ++ m))) ∧ Below w.heap.size w w' :=
  (of_two l m A A' B B' c c' g t w hg hl hm h h').mono fun _ _ ⟨he, hw⟩ => ⟨he, by subst hw; exact (Below.refl _ _).alloc (Nat.le_refl _) _⟩

theorem reads_marked (w : World) (t : TypeId) (l : List UInt8) (n : Nat) (fr : Nat × Nat) (hn : l.length = n) : Reads (w.alloc (.cells (bv l).toArray t fr)) (w.heap.size + 1) 1 (some ⟨w.heap.size, 0, none⟩) n (bv l) :=
  ⟨by simp [bv, hn], fun _ => ⟨_, rfl, by simp, fun j u hu => by
    have ha : (⟨w.heap.size, 0, none⟩ : Addr).add j = ⟨w.heap.size, j, none⟩ := by
      unfold Addr.add
      by_cases hj : j = 0
      · subst hj; rfl
      · simp [hj]
    rw [ha, cell_of_row _ w.heap.size j _ t fr (heap_alloc_new w _)]
    simpa using hu⟩⟩
end Go.Proofs.Ytgpjhcpiemdbcaa
