/- Contract of octavolaw03.awake: it returns true and nothing that was there changes. No conditions. -/
import Derived.Test.YtfdmbgaincmefaaRngF
namespace Go.Proofs.Ytfdmbgaincmefaa
open Go.RowKit

theorem fits_lit : Fits64 [(0, 9)] ∧ Fits64 [(2, 4), (8, 20)] ∧ Fits64 [(0, 2), (4, 8)] := by
  refine ⟨?_, ?_, ?_⟩ <;> intro r hr <;> simp at hr <;> (try rcases hr with rfl | rfl) <;> (try subst hr) <;> simp
theorem less_lit {L : List Rg} (h : Canon L (wayP [(0, 9)] [(2, 4), (8, 20)] 2)) : L = [(0, 2), (4, 8)] := by
  refine h.unique (q := memR [(0, 2), (4, 8)]) (Canon.mem (by simp [rightR, rightFrom])) fun n => ?_
  rw [way2]
  simp only [memR_cons]
  have e : ∀ n, memR [] n ↔ False := fun n => ⟨memR_nil n, False.elim⟩
  simp only [e, or_false]
  omega
theorem right_lit : isRight [(0, 2), (4, 8)] = true := by decide
theorem tot_lit : (totN [(0, 2), (4, 8)] : Int) = 6 := by
  rw [totN_canon (Canon.mem (by simp [rightR, rightFrom])) fits_lit.2.2]
  decide

set_option maxHeartbeats 800000 in
theorem awake_any (w : World) :
    Calls Try.prog 11 #[] w fun e w' => e = .returned (.bool true) ∧ Below w.heap.size w w' := by
  have i1 : RgIn ((w.alloc (.cells #[.int .i64 0, .int .i64 9] 30)).alloc (.cells #[.int .i64 2, .int .i64 4, .int .i64 8, .int .i64 20] 30)) (some ⟨w.heap.size, 0, none⟩) [(0, 9)] :=
    (rgin_new w 30 [(0, 9)] w.heap.size rfl (by simp) fits_lit.1).alloc _
  have i2 : RgIn ((w.alloc (.cells #[.int .i64 0, .int .i64 9] 30)).alloc (.cells #[.int .i64 2, .int .i64 4, .int .i64 8, .int .i64 20] 30)) (some ⟨w.heap.size + 1, 0, none⟩) [(2, 4), (8, 20)] :=
    rgin_new (w.alloc (.cells #[.int .i64 0, .int .i64 9] 30)) 30 [(2, 4), (8, 20)] (w.heap.size + 1) (by simp) (by simp) fits_lit.2.1
  have HC := Lib.hid (rLess_any [(0, 9)] [(2, 4), (8, 20)] _ _ 1 2 _ i1 i2)
  have HU := Lib.hid (und_alloc (und_alloc (und_refl w) (.cells #[.int .i64 0, .int .i64 9] 30)) (.cells #[.int .i64 2, .int .i64 4, .int .i64 8, .int .i64 20] 30))
  clear i1 i2
  go_enter Try.func11, Try.ntmps11
  go_wp2_with fail
  refine HC.out.mono ?_
  rintro e w1 ⟨A, c, L, rfl, hr, hc, hb⟩
  obtain rfl := less_lit hc
  have HI := Lib.hid (show RgIn w1 A [(0, 2), (4, 8)] from ⟨hr, by simp, fits_lit.2.2⟩)
  have HU1 := Lib.hid (und_call HU.out hb)
  clear hr hc hb HC HU
  have i3 : RgIn (w1.alloc (.cells #[.int .i64 0, .int .i64 2, .int .i64 4, .int .i64 8] 30)) (some ⟨w1.heap.size, 0, none⟩) [(0, 2), (4, 8)] :=
    rgin_new w1 30 [(0, 2), (4, 8)] w1.heap.size rfl (by simp) fits_lit.2.2
  have HS := Lib.hid (refSame_at _ _ A _ c 2 _ (HI.out.alloc _) i3)
  have HU2 := Lib.hid (und_alloc HU1.out (.cells #[.int .i64 0, .int .i64 2, .int .i64 4, .int .i64 8] 30))
  clear i3
  go_wp2_with fail
  refine HS.out.mono ?_
  rintro e w2 ⟨rfl, hb2⟩
  have HI2 := Lib.hid ((HI.out.alloc (.cells #[.int .i64 0, .int .i64 2, .int .i64 4, .int .i64 8] 30)).below hb2)
  have HU3 := Lib.hid (und_call HU2.out hb2)
  clear hb2 HS HU2 HI HU1
  have ht : decide (([(0, 2), (4, 8)] : List Rg) = [(0, 2), (4, 8)]) = true := by simp
  go_wp2_with fail
  refine (rRight_any _ A c w2 HI2.out).mono ?_
  rintro e w3 ⟨rfl, hb3⟩
  have HI3 := Lib.hid (HI2.out.below hb3)
  have HU4 := Lib.hid (und_call HU3.out hb3)
  have hr := right_lit
  clear hb3 HI2 HU3
  go_wp2_with fail
  refine (rTotal_any _ A c w3 HI3.out).mono ?_
  rintro e w4 ⟨rfl, hb4⟩
  have HU5 := Lib.hid (und_call HU4.out hb4)
  have htl := tot_lit
  clear hb4 HI3 HU4
  go_wp2
  go_ret
  exact ⟨rfl, HU5.out⟩
end Go.Proofs.Ytfdmbgaincmefaa
