/- The statement RangesMixes: what is in one of two lists, in both, in one alone is just what the document says; the lists stay. No conditions. -/
import Derived.Test.YtfdmbgaincmefaaRows
import Derived.Test.YtfdmbgaincmefaaOpen
import Derived.Test.YtfdmbgaincmefaaOpenR
import Derived.Test.YtfdmbgaincmefaaRngH
import Derived.WalkKit
import Derived.ProofKit
import Derived.OpenShut
import Derived.ShutString
import Derived.ChangeOld
import Derived.Below
import Derived.SizedLaws
import Derived.JoinedCond
namespace Go.Proofs.Ytfdmbgaincmefaa.rangesMixes
open Go.ChangeShapes Go.WideShapes Go.ChangeAt Go.RowKit
open Go.ChangeMaps (open_string shut_string)
set_option linter.unusedVariables false

theorem own : ownKnob Try.prog.godebug = none := by kernel_rfl
theorem laidOut : laidOutB Try.prog = true := by kernel_rfl

set_option maxHeartbeats 800000 in
theorem walk_long (A : Option Addr) (a : List Rg) (c : Nat) (A' : Option Addr) (b : List Rg) (c' : Nat) (w : World) (h : (decide (60 < a.length) || decide (60 < b.length)) = true) :
    Calls Try.prog 3 #[.slice A a.length c, .slice A' b.length c'] w fun e w' => e = .returned (.bool true) ∧ Below w.heap.size w w' := by
  have HL := fun w => Lib.hid (long_any a b A A' c c' w)
  rw [h] at HL
  clear h
  go_enter Try.func3, Try.ntmps3
  go_wp2_with fail
  refine (awake_any _).mono ?_
  rintro e w1 ⟨rfl, hb1⟩
  go_wp2_with fail
  refine (HL w1).out.mono ?_
  rintro e w2 ⟨rfl, rfl⟩
  go_wp2_with fail
  refine (awake_any _).mono ?_
  rintro e w2 ⟨rfl, hb2⟩
  go_wp2
  go_ret
  exact ⟨rfl, hb1.trans (hb2.mono hb1.size)⟩

set_option maxHeartbeats 1600000 in
theorem walk_short (A : Option Addr) (a : List Rg) (c : Nat) (A' : Option Addr) (b : List Rg) (c' : Nat) (w : World) (ia : RgIn w A a) (ib : RgIn w A' b) (ha : a.length ≤ 60) (hb : b.length ≤ 60)
    (h : (decide (60 < a.length) || decide (60 < b.length)) = false) :
    Calls Try.prog 3 #[.slice A a.length c, .slice A' b.length c'] w fun e w' => e = .returned (.bool true) ∧ Below w.heap.size w w' := by
  have HL := fun w => Lib.hid (long_any a b A A' c c' w)
  rw [h] at HL
  have fa := Lib.hid ia.2.2
  have fb := Lib.hid ib.2.2
  have IA := Lib.hid ia
  have IB := Lib.hid ib
  clear h ia ib
  go_enter Try.func3, Try.ntmps3
  go_wp2_with fail
  refine (awake_any _).mono ?_
  rintro e w1 ⟨rfl, hb1⟩
  have U1 := Lib.hid (show Und w w1 from hb1)
  clear hb1
  go_wp2_with fail
  refine (HL w1).out.mono ?_
  rintro e w2 ⟨rfl, rfl⟩
  go_wp2_with fail
  refine (refLent_any a A _ c w1 (by omega) (IA.out.und U1.out).1).mono ?_
  rintro e w2 ⟨vx, rfl, hx, hb2⟩
  have U2 := Lib.hid (und_call U1.out hb2)
  have LX := Lib.hid hx
  clear hb2 hx U1
  go_wp2_with fail
  refine (refLent_any b A' _ c' w2 (by omega) (IB.out.und U2.out).1).mono ?_
  rintro e w3 ⟨vy, rfl, hy, hb3⟩
  have U3 := Lib.hid (und_call U2.out hb3)
  have LX3 := Lib.hid (LX.out.below hb3)
  have LY3 := Lib.hid hy
  obtain ⟨gx, cx, ex, ix⟩ := RgIn.of_lent LX3.out (by omega) fa.out
  obtain ⟨gy, cy, ey, iy⟩ := RgIn.of_lent LY3.out (by omega) fb.out
  have IX := Lib.hid ix
  have IY := Lib.hid iy
  subst ex ey
  clear hb3 hy U2 LX ix iy
  have V3 := Lib.hid (und_refl w3)
  go_wp2_with fail
  refine (rEither_any a b _ _ cx cy w3 IX.out IY.out).mono ?_
  rintro e w4 ⟨A1, c1, L1, rfl, r1, n1, hb4⟩
  have V4 := Lib.hid (und_call V3.out hb4)
  have R1 := Lib.hid (mix_in (Or.inl rfl) (by omega) (by omega) fa.out fb.out r1 n1)
  have N1 := Lib.hid n1
  clear r1 n1 hb4 V3
  go_wp2_with fail
  refine (refMix_at a b 0 (Or.inl rfl) A A' c c' w4 ((IA.out.und U3.out).und V4.out) ((IB.out.und U3.out).und V4.out)).mono ?_
  rintro e w5 ⟨A2, c2, L2, rfl, r2, n2, hb5⟩
  have V5 := Lib.hid (und_call V4.out hb5)
  have R2 := Lib.hid (mix_in (Or.inl rfl) (by omega) (by omega) fa.out fb.out r2 n2)
  have e12 := N1.out.unique n2 (fun n => Iff.rfl)
  subst e12
  have R1' := Lib.hid (R1.out.below hb5)
  clear r2 n2 hb5 V4 R1 N1
  go_wp2_with fail
  refine (refSame_at L1 L1 A1 A2 c1 c2 w5 R1'.out R2.out).mono ?_
  rw [show decide (L1 = L1) = true from by simp]
  rintro e w6 ⟨rfl, hb6⟩
  have V6 := Lib.hid (und_call V5.out hb6)
  clear hb6 V5 R1' R2
  go_wp2_with fail
  refine (rBoth_any a b _ _ cx cy w6 (IX.out.und V6.out) (IY.out.und V6.out)).mono ?_
  rintro e w7 ⟨A1, c1, L1, rfl, r1, n1, hb4⟩
  have V7 := Lib.hid (und_call V6.out hb4)
  have R1 := Lib.hid (mix_in (Or.inr (Or.inl rfl)) (by omega) (by omega) fa.out fb.out r1 n1)
  have N1 := Lib.hid n1
  clear r1 n1 hb4 V6
  go_wp2_with fail
  refine (refMix_at a b 1 (Or.inr (Or.inl rfl)) A A' c c' w7 ((IA.out.und U3.out).und V7.out) ((IB.out.und U3.out).und V7.out)).mono ?_
  rintro e w8 ⟨A2, c2, L2, rfl, r2, n2, hb5⟩
  have V8 := Lib.hid (und_call V7.out hb5)
  have R2 := Lib.hid (mix_in (Or.inr (Or.inl rfl)) (by omega) (by omega) fa.out fb.out r2 n2)
  have e12 := N1.out.unique n2 (fun n => Iff.rfl)
  subst e12
  have R1' := Lib.hid (R1.out.below hb5)
  clear r2 n2 hb5 V7 R1 N1
  go_wp2_with fail
  refine (refSame_at L1 L1 A1 A2 c1 c2 w8 R1'.out R2.out).mono ?_
  rw [show decide (L1 = L1) = true from by simp]
  rintro e w9 ⟨rfl, hb6⟩
  have V9 := Lib.hid (und_call V8.out hb6)
  clear hb6 V8 R1' R2
  go_wp2_with fail
  refine (rLess_any a b _ _ cx cy w9 (IX.out.und V9.out) (IY.out.und V9.out)).mono ?_
  rintro e w10 ⟨A1, c1, L1, rfl, r1, n1, hb4⟩
  have V10 := Lib.hid (und_call V9.out hb4)
  have R1 := Lib.hid (mix_in (Or.inr (Or.inr rfl)) (by omega) (by omega) fa.out fb.out r1 n1)
  have N1 := Lib.hid n1
  clear r1 n1 hb4 V9
  go_wp2_with fail
  refine (refMix_at a b 2 (Or.inr (Or.inr rfl)) A A' c c' w10 ((IA.out.und U3.out).und V10.out) ((IB.out.und U3.out).und V10.out)).mono ?_
  rintro e w11 ⟨A2, c2, L2, rfl, r2, n2, hb5⟩
  have V11 := Lib.hid (und_call V10.out hb5)
  have R2 := Lib.hid (mix_in (Or.inr (Or.inr rfl)) (by omega) (by omega) fa.out fb.out r2 n2)
  have e12 := N1.out.unique n2 (fun n => Iff.rfl)
  subst e12
  have R1' := Lib.hid (R1.out.below hb5)
  clear r2 n2 hb5 V10 R1 N1
  go_wp2_with fail
  refine (refSame_at L1 L1 A1 A2 c1 c2 w11 R1'.out R2.out).mono ?_
  rw [show decide (L1 = L1) = true from by simp]
  rintro e w12 ⟨rfl, hb6⟩
  have V12 := Lib.hid (und_call V11.out hb6)
  clear hb6 V11 R1' R2
  go_wp2_with fail
  refine (refKept_any a _ A _ c _ w12 (by omega) (LX3.out.below V12.out) ((IA.out.und U3.out).und V12.out).1).mono ?_
  rintro e w13 ⟨rfl, hb7⟩
  have V13 := Lib.hid (und_call V12.out hb7)
  clear hb7 V12
  go_wp2_with fail
  refine (refKept_any b _ A' _ c' _ w13 (by omega) (LY3.out.below V13.out) ((IB.out.und U3.out).und V13.out).1).mono ?_
  rintro e w14 ⟨rfl, hb8⟩
  have U14 := Lib.hid (und_call (und_trans U3.out V13.out) hb8)
  clear hb8
  go_wp2
  go_ret
  exact ⟨rfl, U14.out⟩

theorem walk (A : Option Addr) (a : List Rg) (c : Nat) (A' : Option Addr) (b : List Rg) (c' : Nat) (w : World) (_hlc : a.length ≤ c) (_hcm : c ≤ maxLen) (hr : Reads w w.heap.size 2 A a.length (rgv a)) (hf : Fits64 a)
    (_hlc' : b.length ≤ c') (_hcm' : c' ≤ maxLen) (hr' : Reads w w.heap.size 2 A' b.length (rgv b)) (hf' : Fits64 b) :
    Calls Try.prog 3 #[.slice A a.length c, .slice A' b.length c'] w fun e w' => e = .returned (.bool true) ∧ Below w.heap.size w w' := by
  rcases h : (decide (60 < a.length) || decide (60 < b.length)) with _ | _
  · have h2 : a.length ≤ 60 ∧ b.length ≤ 60 := by simp at h; omega
    exact walk_short A a c A' b c' w ⟨hr, by omega, hf⟩ ⟨hr', by omega, hf'⟩ h2.1 h2.2 h
  · exact walk_long A a c A' b c' w h

set_option maxRecDepth 100000 in
theorem lifted (os : Os) (started : os.Started) (H : Type) (enc : TypeId × Value → H) :
    ReturnsInHanded {} Try.checked os 3 .any (Rows.rangesMixesSpec.pre6 enc Try.prog Try.f3 Rows.rangesMixesRow.domain false) (Rows.rangesMixesSpec.post enc Try.prog Try.f3 false true false false) := by
  refine returnsInHanded_of_change_sized (C := Try.checked) own started (by kernel_rfl) Try.func3
    (ChangeSpec.witness6 (enc := enc) (C := Try.checked) false ⟨#[], #[.slice none 0 0, .slice none 0 0], []⟩ 8 (by kernel_rfl) (by kernel_rfl) (by kernel_rfl) (by kernel_rfl)) ?_
  intro W base args ds gs before hval0 hW hcnd hsz0 _
  have hsz : (DataW.weightsEach Try.prog (Try.f3.params.toList ++ Rows.rangesMixesSpec.plain.varTypes Try.prog) (ds ++ gs)).all (· ≤ reachBytes) = true := hsz0
  have hval : ∀ (j : Nat) t v, Try.f3.params[j]? = some t → args[j]? = some v → Value.okWide Try.prog W .any base t v := hval0
  have hW' := hW
  obtain ⟨p, q, hA0, hV, rfl, hfz, hnd⟩ := hW
  have hA : DataW.TrodAll enc Try.prog W 0 (fun _ => true) true Try.f3.params.toList args.toList ds p := hA0
  rw [Try.params3] at hA hval hsz
  obtain ⟨v0, vs0, d0, ds0, p0, q0, hargs, rfl, rfl, h0, r0⟩ := trodAll_cons hA
  obtain ⟨v1, vs1, d1, ds1, p1, q1, rfl, rfl, rfl, h1, r1⟩ := trodAll_cons r0
  obtain ⟨rfl, rfl, rfl⟩ := trodAll_nil r1
  obtain rfl : args = #[v0, v1] := by cases args; simp_all
  obtain ⟨rfl, rfl⟩ := trodVars_none hV
  have k0 := h0
  have lt0 : ∀ x ∈ p0, x.block < W.heap.size := by obtain ⟨m, hm⟩ := k0; exact DataW.trod_lt m _ _ _ hm
  obtain ⟨A0, l0, c0, rfl, hlc0, hcm0, hr0, hf0⟩ := open_ranges Try.underlying22 Try.underlying30 (by kernel_rfl) (by kernel_rfl) Try.underlying3 Try.underlying3 (hval 0 22 v0 rfl rfl) h0
  have k1 := h1
  have lt1 : ∀ x ∈ p1, x.block < W.heap.size := by obtain ⟨m, hm⟩ := k1; exact DataW.trod_lt m _ _ _ hm
  obtain ⟨A1, l1, c1, rfl, hlc1, hcm1, hr1, hf1⟩ := open_ranges Try.underlying22 Try.underlying30 (by kernel_rfl) (by kernel_rfl) Try.underlying3 Try.underlying3 (hval 1 22 v1 rfl rfl) h1
  clear hA0 hval0 hsz0
  refine (walk A0 l0 c0 A1 l1 c1 W hlc0 hcm0 hr0 hf0 hlc1 hcm1 hr1 hf1).mono fun e W' ⟨he, bel⟩ => ?_
  subst he
  exact ⟨_, rfl, _, _, _, [], _, [], hW', trodAll_mk1 (shut_bool Try.underlying4 _), (trodAll_cons_mk (Below.trod laidOut (by kernel_rfl) (of_decide_eq_true (by kernel_rfl)) k0 bel lt0) (trodAll_cons_mk (Below.trod laidOut (by kernel_rfl) (of_decide_eq_true (by kernel_rfl)) k1 bel lt1) trodAll_mk0)), rfl, bel.frame _, fun h => by cases h⟩

theorem over : Rows.rangesMixesRow.holds Try.pinned (OpenSpec.ofChange Rows.rangesMixesSpec) :=
  OpenClaim.holds_of_wide 3 Try.f3 rfl rfl rfl rfl rfl rfl rfl ⟨rfl, rfl, rfl, rfl, rfl⟩ rfl rfl rfl rfl rfl (by kernel_rfl) Try.func3 (by kernel_rfl)
    (of_decide_eq_true (by kernel_rfl)) (by unfold Func.isWrapper; first | (rw [if_pos (by decide +kernel)]; kernel_rfl) | (rw [if_neg (by decide +kernel)]; exact ⟨rfl, rfl⟩))
    (fun os started H enc _ => lifted os started H enc)

/-- The statement. -/
theorem proved : Rows.RangesMixesSaid := over
#print axioms proved
end Go.Proofs.Ytfdmbgaincmefaa.rangesMixes
