/- Contract of octavolaw01.awake: it returns true and nothing that was there changes. No conditions. -/
import Derived.Test.YtklpljkjknncgaaLeG
namespace Go.Proofs.Ytklpljkjknncgaa
open Go.RowKit

theorem reads_new (w : World) (t : TypeId) (l : List UInt8) (n : Nat) (hn : l.length = n) : Reads (w.alloc (.cells (bv l).toArray t)) (w.heap.size + 1) 1 (some ⟨w.heap.size, 0, none⟩) n (bv l) :=
  ⟨by simp [bv, hn], fun _ => ⟨_, rfl, by simp, cells_new w t (bv l)⟩⟩

theorem reads_7 (w : World) (t : TypeId) (g : Nat) (hg : w.heap.size = g) : Reads (w.alloc (.cells #[.int .u8 7] t)) (g + 1) 1 (some ⟨g, 0, none⟩) 1 (bv [7]) := by
  subst hg; exact reads_new w t [7] 1 rfl
theorem reads_21 (w : World) (t : TypeId) (g : Nat) (hg : w.heap.size = g) : Reads (w.alloc (.cells #[.int .u8 2, .int .u8 1] t)) (g + 1) 1 (some ⟨g, 0, none⟩) 2 (bv [2, 1]) := by
  subst hg; exact reads_new w t [2, 1] 2 rfl

set_option maxHeartbeats 400000 in
theorem awake_any (w : World) :
    Calls Try.prog 13 #[] w fun e w' => e = .returned (.bool true) ∧ Below w.heap.size w w' := by
  have hB := Lib.hid (leBytes_any 258 2 w (by omega))
  rw [show mBytes 258 2 = ([2, 1], 0) from by decide] at hB
  go_enter Try.func13, Try.ntmps13
  go_wp2_with fail
  refine hB.out.mono ?_
  rintro e w1 ⟨v1, rfl, hown1, hb1⟩
  go_wp2_with fail
  have hI := leInt_any [2, 1] _ _ 2 _ (by simp [maxLen]) (reads_21 w1 5 _ rfl)
  rw [show mInt [2, 1] = (258, 0) from by decide] at hI
  refine hI.mono ?_
  rintro e w2 ⟨rfl, rfl⟩
  clear hI
  go_wp2_with fail
  refine (on_any [7] (some ⟨w1.heap.size + 1, 0, none⟩) (w1.heap.size + 2) 1 ((w1.alloc (.cells #[.int .u8 2, .int .u8 1] 5)).alloc (.cells #[.int .u8 7] 5)) (by simp) (reads_7 _ 5 _ (by simp))).mono ?_
  rintro e w3 ⟨g, rfl, hg, hrd, hb3⟩
  have hI := rdInt_any 1 w3 _ w3.heap.size g [7] 0 hrd (by simp [maxLen])
  rw [show mRdInt [7] 0 1 = (7, 0, 1) from by decide] at hI
  have HI := Lib.hid hI
  clear hI
  go_wp2_with fail
  refine HI.out.mono ?_
  rintro e w4 ⟨rfl, hto⟩
  obtain ⟨A1, c1, rfl, hc1, hm1, hr1, hA1⟩ := own_form hown1
  have hb3' : Below w1.heap.size w1 w3 := (((Below.refl _ _).alloc (Nat.le_refl _) _).alloc (by simp) _).trans (hb3.mono (by simp; omega))
  have hb4 : Below w1.heap.size w1 w4 := hb3'.grown hto.1 hb3'.size (fun k hk => by injection hk with hk; subst hk; have := hg; simp at this; omega)
  have hr4 := (hr1.below hb4).alloc (by have := hb4.size; omega) (.cells #[.int .u8 2, .int .u8 1] 5)
  have hb5 : Below w.heap.size w w4 := hb1.trans (hb4.mono hb1.size)
  have hrd4 := hto.2.here
  have HR := Lib.hid hr4
  have HB := Lib.hid hb5
  clear hr4 hb5 hb4 hb3' hr1 hA1 hown1 hto hrd hb3 hb1 HI hB hc1 hm1 hg
  go_wp2_with fail
  have hS := same_any [2, 1] [2, 1] A1 _ _ _ c1 2 _ (by simp [maxLen]) (by simp [maxLen]) HR.out (reads_21 w4 5 _ rfl)
  rw [show decide (([2, 1] : List UInt8) = [2, 1]) = true from by decide] at hS
  refine hS.mono ?_
  rintro e w5 ⟨rfl, hb6⟩
  clear hS
  have hb7 := ((Below.refl w4.heap.size w4).alloc (Nat.le_refl _) (.cells #[.int .u8 2, .int .u8 1] 5)).trans (hb6.mono (by simp))
  have HB7 := Lib.hid hb7
  clear hb6 hb7
  go_wp2_with fail
  refine (place_any w5 _ _ g [7] 1 (hrd4.below HB7.out)).mono ?_
  rintro e w6 ⟨rfl, hb8⟩
  go_wp2
  go_ret
  exact ⟨rfl, HB.out.trans ((HB7.out.mono HB.out.size).trans (hb8.mono (Nat.le_trans HB.out.size HB7.out.size)))⟩
end Go.Proofs.Ytklpljkjknncgaa
