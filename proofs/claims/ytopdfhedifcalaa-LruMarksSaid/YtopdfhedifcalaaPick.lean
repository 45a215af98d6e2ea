/- Contract of octavoref01.Pick. Conditions: bounds. -/
import Derived.Test.YtopdfhedifcalaaProg
import Derived.WalkKit
import Derived.Lib.Hide
import Derived.IntWalk
namespace Go.Proofs.Ytopdfhedifcalaa
open Go.RowKit

set_option maxHeartbeats 800000 in
theorem pick_any (x n : Int) (w : World) (hn : 1 ≤ n ∧ n ≤ 1152921504606846976) :
    Calls Try.prog 17 #[.int .i64 x, .int .i64 n] w fun e w' => e = .returned (.int .i64 (x % n)) ∧ w = w' := by
  have ht : Int.tmod x n = x % n ∨ Int.tmod x n = x % n - n ∧ 0 < x % n := by
    rw [Int.tmod_eq_emod]
    split
    · left; omega
    · rename_i h
      right
      have h1 := Int.emod_nonneg x (show n ≠ 0 by omega)
      have h2 : x % n ≠ 0 := fun e => h (.inr (Int.dvd_of_emod_eq_zero e))
      omega
  have h1 := Int.emod_nonneg x (show n ≠ 0 by omega)
  have h2 := Int.emod_lt_of_pos x (show 0 < n by omega)
  obtain ⟨hn1, hn2⟩ := hn
  generalize hr : x % n = r at *
  clear hr
  have hn0 : n ≠ 0 := by omega
  rcases ht with ht | ⟨ht, hp⟩
  · have h3 : (0 : Int) ≤ r := h1
    go_enter Try.func17, Try.ntmps17
    go_wp2
    go_ret
    exact ⟨rfl, rfl⟩
  · have h3 : r - n < 0 := by omega
    have h4 : r - n + n = r := by omega
    go_enter Try.func17, Try.ntmps17
    go_wp2
    go_ret
    exact ⟨rfl, rfl⟩
end Go.Proofs.Ytopdfhedifcalaa
