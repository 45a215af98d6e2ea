/- The statement RangesNormal: every list has the right list that the document says, and is right just if it is that. No conditions. -/
import Derived.Test.YtfdmbgaincmefaaRows
import Derived.Test.YtfdmbgaincmefaaOpen
import Derived.Test.YtfdmbgaincmefaaOpenR
import Derived.Test.YtfdmbgaincmefaaRngH
import Derived.WalkKit
import Derived.ProofKit
import Derived.OpenShut
import Derived.ShutString
import Derived.ChangeOld
import Derived.Below
import Derived.SizedLaws
import Derived.JoinedCond
namespace Go.Proofs.Ytfdmbgaincmefaa.rangesNormal
open Go.ChangeShapes Go.WideShapes Go.ChangeAt Go.RowKit
open Go.ChangeMaps (open_string shut_string)
set_option linter.unusedVariables false

theorem own : ownKnob Try.prog.godebug = none := by kernel_rfl
theorem laidOut : laidOutB Try.prog = true := by kernel_rfl

set_option maxHeartbeats 800000 in
theorem walk_long (A : Option Addr) (l : List Rg) (c : Nat) (w : World) (h : (decide (60 < l.length) || decide (60 < ([] : List Rg).length)) = true) :
    Calls Try.prog 4 #[.slice A l.length c] w fun e w' => e = .returned (.bool true) ∧ Below w.heap.size w w' := by
  have HL := fun w => Lib.hid (long_any l ([] : List Rg) A none c 0 w)
  rw [h] at HL
  clear h
  go_enter Try.func4, Try.ntmps4
  go_wp2_with fail
  refine (awake_any _).mono ?_
  rintro e w1 ⟨rfl, hb1⟩
  go_wp2_with fail
  refine (HL w1).out.mono ?_
  rintro e w2 ⟨rfl, rfl⟩
  go_wp2_with fail
  refine (awake_any _).mono ?_
  rintro e w2 ⟨rfl, hb2⟩
  go_wp2
  go_ret
  exact ⟨rfl, hb1.trans (hb2.mono hb1.size)⟩

set_option maxRecDepth 100000 in
set_option maxHeartbeats 1600000 in
theorem walk_short (A : Option Addr) (l : List Rg) (c : Nat) (w : World) (ia : RgIn w A l) (ha : l.length ≤ 60) (h : (decide (60 < l.length) || decide (60 < ([] : List Rg).length)) = false) :
    Calls Try.prog 4 #[.slice A l.length c] w fun e w' => e = .returned (.bool true) ∧ Below w.heap.size w w' := by
  have HL := fun w => Lib.hid (long_any l ([] : List Rg) A none c 0 w)
  rw [h] at HL
  clear h
  have fa := Lib.hid ia.2.2
  have IA := Lib.hid ia
  clear ia
  go_enter Try.func4, Try.ntmps4
  go_wp2_with fail
  refine (awake_any _).mono ?_
  rintro e w1 ⟨rfl, hb1⟩
  have U1 := Lib.hid (show Und w w1 from hb1)
  clear hb1
  go_wp2_with fail
  refine (HL w1).out.mono ?_
  rintro e w2 ⟨rfl, rfl⟩
  go_wp2_with fail
  refine (refLent_any l A _ c w1 (by omega) (IA.out.und U1.out).1).mono ?_
  rintro e w2 ⟨vx, rfl, hx, hb2⟩
  have U2 := Lib.hid (und_call U1.out hb2)
  have LX := Lib.hid hx
  obtain ⟨gx, cx, ex, ix⟩ := RgIn.of_lent hx (by omega) fa.out
  have IX := Lib.hid ix
  subst ex
  clear hb2 hx U1 ix
  have V2 := Lib.hid (und_refl w2)
  go_wp2_with fail
  refine (rNormal_any l _ cx w2 IX.out).mono ?_
  rintro e w3 ⟨A1, c1, L1, rfl, r1, n1, hb3⟩
  have V3 := Lib.hid (und_call V2.out hb3)
  have R1 := Lib.hid (mix_in (Or.inl rfl) (by omega) (by simp) fa.out fits_nil r1 n1)
  have N1 := Lib.hid n1
  have hr1 : isRight L1 = true := (isRight_iff L1).2 n1.1
  have HR1 := Lib.hid hr1
  clear r1 n1 hb3 V2 hr1
  have hcall := refMix_at l [] 0 (Or.inl rfl) A none c 0 w3 ((IA.out.und U2.out).und V3.out) (rgin_nil w3)
  have HM := Lib.hid hcall
  clear hcall
  go_wp2_with fail
  refine HM.out.mono ?_
  rintro e w4 ⟨A2, c2, L2, rfl, r2, n2, hb4⟩
  have V4 := Lib.hid (und_call V3.out hb4)
  have R2 := Lib.hid (mix_in (Or.inl rfl) (by omega) (by simp) fa.out fits_nil r2 n2)
  have e12 := N1.out.unique n2 (fun n => Iff.rfl)
  subst e12
  have R1' := Lib.hid (R1.out.below hb4)
  clear r2 n2 hb4 V3 R1 N1 HM
  go_wp2_with fail
  refine (refSame_at L1 L1 A1 A2 c1 c2 w4 R1'.out R2.out).mono ?_
  rw [show decide (L1 = L1) = true from by simp]
  rintro e w5 ⟨rfl, hb5⟩
  have V5 := Lib.hid (und_call V4.out hb5)
  have R5 := Lib.hid (R1'.out.below hb5)
  clear hb5 V4 R1' R2
  go_wp2_with fail
  refine (rRight_any L1 A1 c1 w5 R5.out).mono ?_
  rw [HR1.out]
  rintro e w6 ⟨rfl, hb6⟩
  have V6 := Lib.hid (und_call V5.out hb6)
  clear hb6 V5 R5
  go_wp2_with fail
  refine (rRight_any l _ cx w6 (IX.out.und V6.out)).mono ?_
  rintro e w7 ⟨rfl, hb7⟩
  have V7 := Lib.hid (und_call V6.out hb7)
  clear hb7 V6
  go_wp2_with fail
  refine (refRight_at l A c w7 ((IA.out.und U2.out).und V7.out) (by omega)).mono ?_
  rintro e w8 ⟨rfl, hb8⟩
  have V8 := Lib.hid (und_call V7.out hb8)
  clear hb8 V7
  generalize isRight l = r at *
  have hrr : (r == r) = true := by simp
  go_wp2_with fail
  refine (refKept_any l _ A _ c _ w8 (by omega) (LX.out.below V8.out) ((IA.out.und U2.out).und V8.out).1).mono ?_
  rintro e w9 ⟨rfl, hb9⟩
  have U9 := Lib.hid (und_call (und_trans U2.out V8.out) hb9)
  clear hb9
  go_wp2
  go_ret
  exact ⟨rfl, U9.out⟩

theorem walk (A : Option Addr) (l : List Rg) (c : Nat) (w : World) (_hlc : l.length ≤ c) (_hcm : c ≤ maxLen) (hr : Reads w w.heap.size 2 A l.length (rgv l)) (hf : Fits64 l) :
    Calls Try.prog 4 #[.slice A l.length c] w fun e w' => e = .returned (.bool true) ∧ Below w.heap.size w w' := by
  rcases h : (decide (60 < l.length) || decide (60 < ([] : List Rg).length)) with _ | _
  · have h2 : l.length ≤ 60 := by simp at h; omega
    exact walk_short A l c w ⟨hr, by omega, hf⟩ h2 h
  · exact walk_long A l c w h

set_option maxRecDepth 100000 in
theorem lifted (os : Os) (started : os.Started) (H : Type) (enc : TypeId × Value → H) :
    ReturnsInHanded {} Try.checked os 4 .any (Rows.rangesNormalSpec.pre6 enc Try.prog Try.f4 Rows.rangesNormalRow.domain false) (Rows.rangesNormalSpec.post enc Try.prog Try.f4 false true false false) := by
  refine returnsInHanded_of_change_sized (C := Try.checked) own started (by kernel_rfl) Try.func4
    (ChangeSpec.witness6 (enc := enc) (C := Try.checked) false ⟨#[], #[.slice none 0 0], []⟩ 8 (by kernel_rfl) (by kernel_rfl) (by kernel_rfl) (by kernel_rfl)) ?_
  intro W base args ds gs before hval0 hW hcnd hsz0 _
  have hsz : (DataW.weightsEach Try.prog (Try.f4.params.toList ++ Rows.rangesNormalSpec.plain.varTypes Try.prog) (ds ++ gs)).all (· ≤ reachBytes) = true := hsz0
  have hval : ∀ (j : Nat) t v, Try.f4.params[j]? = some t → args[j]? = some v → Value.okWide Try.prog W .any base t v := hval0
  have hW' := hW
  obtain ⟨p, q, hA0, hV, rfl, hfz, hnd⟩ := hW
  have hA : DataW.TrodAll enc Try.prog W 0 (fun _ => true) true Try.f4.params.toList args.toList ds p := hA0
  rw [Try.params4] at hA hval hsz
  obtain ⟨v0, vs0, d0, ds0, p0, q0, hargs, rfl, rfl, h0, r0⟩ := trodAll_cons hA
  obtain ⟨rfl, rfl, rfl⟩ := trodAll_nil r0
  obtain rfl : args = #[v0] := by cases args; simp_all
  obtain ⟨rfl, rfl⟩ := trodVars_none hV
  have k0 := h0
  have lt0 : ∀ x ∈ p0, x.block < W.heap.size := by obtain ⟨m, hm⟩ := k0; exact DataW.trod_lt m _ _ _ hm
  obtain ⟨A0, l0, c0, rfl, hlc0, hcm0, hr0, hf0⟩ := open_ranges Try.underlying22 Try.underlying30 (by kernel_rfl) (by kernel_rfl) Try.underlying3 Try.underlying3 (hval 0 22 v0 rfl rfl) h0
  clear hA0 hval0 hsz0
  refine (walk A0 l0 c0 W hlc0 hcm0 hr0 hf0).mono fun e W' ⟨he, bel⟩ => ?_
  subst he
  exact ⟨_, rfl, _, _, _, [], _, [], hW', trodAll_mk1 (shut_bool Try.underlying4 _), (trodAll_cons_mk (Below.trod laidOut (by kernel_rfl) (of_decide_eq_true (by kernel_rfl)) k0 bel lt0) trodAll_mk0), rfl, bel.frame _, fun h => by cases h⟩

theorem over : Rows.rangesNormalRow.holds Try.pinned (OpenSpec.ofChange Rows.rangesNormalSpec) :=
  OpenClaim.holds_of_wide 4 Try.f4 rfl rfl rfl rfl rfl rfl rfl ⟨rfl, rfl, rfl, rfl, rfl⟩ rfl rfl rfl rfl rfl (by kernel_rfl) Try.func4 (by kernel_rfl)
    (of_decide_eq_true (by kernel_rfl)) (by unfold Func.isWrapper; first | (rw [if_pos (by decide +kernel)]; kernel_rfl) | (rw [if_neg (by decide +kernel)]; exact ⟨rfl, rfl⟩))
    (fun os started H enc _ => lifted os started H enc)

/-- The statement. -/
theorem proved : Rows.RangesNormalSaid := over
#print axioms proved
end Go.Proofs.Ytfdmbgaincmefaa.rangesNormal
