/- A slice of a block that was just made reads as its cells. No conditions but those that are named. -/
import Derived.Test.YtopdfhedifcalaaMath
import Derived.WalkKit
namespace Go.Proofs.Ytopdfhedifcalaa
open Go.RowKit

theorem cells_new (w : World) (t : TypeId) (xs : List Value) : ∀ j u, xs[j]? = some u → (w.alloc (.cells xs.toArray t)).cell? ((⟨w.heap.size, 0, none⟩ : Addr).add j) = some u := by
  intro j u hu
  have ha : (⟨w.heap.size, 0, none⟩ : Addr).add j = ⟨w.heap.size, j, none⟩ := by
    unfold Addr.add
    by_cases hj : j = 0
    · subst hj; rfl
    · simp [hj]
  rw [ha, (Blk.new w t xs.toArray).cell j]
  simpa using hu

theorem reads_new (w : World) (t : TypeId) (l : List UInt8) (n : Nat) (hn : l.length = n) : Reads (w.alloc (.cells (bv l).toArray t)) (w.heap.size + 1) 1 (some ⟨w.heap.size, 0, none⟩) n (bv l) :=
  ⟨by simp [bv, hn], fun _ => ⟨_, rfl, by simp, cells_new w t (bv l)⟩⟩
theorem reads_vals0 (w : World) (t : TypeId) (xs : List Value) (n : Nat) (hn : xs.length = n) : Reads (w.alloc (.cells xs.toArray t)) (w.alloc (.cells xs.toArray t)).heap.size 1 (some ⟨w.heap.size, 0, none⟩) n xs :=
  ⟨by omega, fun _ => ⟨_, rfl, by simp, cells_new w t xs⟩⟩
end Go.Proofs.Ytopdfhedifcalaa
