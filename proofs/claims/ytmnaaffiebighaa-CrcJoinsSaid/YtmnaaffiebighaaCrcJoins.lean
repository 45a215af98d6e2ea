/- The statement CrcJoins: the sum of two texts, one behind the other, is that of their sums, joined. No conditions. -/
import Derived.Test.YtmnaaffiebighaaRows
import Derived.Test.YtmnaaffiebighaaOpen
import Derived.Test.YtmnaaffiebighaaCrcC
import Derived.WalkKit
import Derived.ProofKit
import Derived.OpenShut
import Derived.ShutString
import Derived.ChangeOld
import Derived.Below
import Derived.SizedLaws
namespace Go.Proofs.Ytmnaaffiebighaa.crcJoins
open Go.ChangeShapes Go.WideShapes Go.ChangeAt Go.RowKit
open Go.ChangeMaps (open_string shut_string)
set_option linter.unusedVariables false

theorem own : ownKnob Try.prog.godebug = none := by kernel_rfl
theorem laidOut : laidOutB Try.prog = true := by kernel_rfl
theorem bytes_u8 : Try.prog.bytesOf 5 = 1 := by kernel_rfl

set_option maxHeartbeats 400000 in
theorem walk (A : Option Addr) (l : List UInt8) (c : Nat) (A' : Option Addr) (m : List UInt8) (c' : Nat) (w : World) (_hlc : l.length ≤ c) (_hcm : c ≤ maxLen) (hr : Reads w w.heap.size 1 A l.length (bv l)) (hre : l.length ≤ 140737488351232)
    (_hlc' : m.length ≤ c') (_hcm' : c' ≤ maxLen) (hr' : Reads w w.heap.size 1 A' m.length (bv m)) (hre' : m.length ≤ 140737488351232) :
    Calls Try.prog 5 #[.slice A l.length c, .slice A' m.length c'] w fun e w' => e = .returned (.bool true) ∧ Below w.heap.size w w' := by
  clear _hlc _hcm _hlc' _hcm'
  have HR := Lib.hid hr
  have HR' := Lib.hid hr'
  clear hr hr'
  have HS := Lib.hid (sumOf_append l m)
  have h1 := sumOf_lt l
  have h2 := sumOf_lt m
  go_enter Try.func5, Try.ntmps5
  go_wp2_with fail
  refine (awake_any _).mono ?_
  rintro e w1 ⟨rfl, hb1⟩
  have HB := Lib.hid hb1
  clear hb1
  have HR1 := Lib.hid (HR.out.below HB.out)
  have HR1' := Lib.hid (HR'.out.below HB.out)
  go_wp2_with fail
  refine (of_one l A _ c _ _ w1 rfl (by omega) HR1.out).mono ?_
  rintro e w2 ⟨rfl, rfl⟩
  have HR2' := Lib.hid (HR1'.out.here.alloc (Nat.le_refl _) (.cells #[.slice A l.length c] 23))
  have HR2 := Lib.hid (HR1.out.here.alloc (Nat.le_refl _) (.cells #[.slice A l.length c] 23))
  go_wp2_with fail
  refine (of_one m A' _ c' _ _ (w1.alloc (.cells #[.slice A l.length c] 23)) (by simp) (by omega) HR2'.out).mono ?_
  rintro e w2 ⟨rfl, rfl⟩
  have HR3' := Lib.hid (HR2'.out.alloc (by simp) (.cells #[.slice A' m.length c'] 23))
  have HR3 := Lib.hid (HR2.out.alloc (by simp) (.cells #[.slice A' m.length c'] 23))
  go_wp2_with fail
  refine (join_any _ _ _ _ h1 h2 (by omega)).mono ?_
  rintro e w2 ⟨rfl, rfl⟩
  go_wp2_with fail
  refine (of_two l m A A' _ _ c c' _ _ ((w1.alloc (.cells #[.slice A l.length c] 23)).alloc (.cells #[.slice A' m.length c'] 23)) (by simp) (by omega) (by omega) HR3.out HR3'.out).mono ?_
  rintro e w2 ⟨rfl, rfl⟩
  rw [HS.out]
  generalize joinOf (sumOf l) (sumOf m) m.length = r at *
  go_wp2
  go_ret
  exact ⟨rfl, HB.out.trans ((((Below.refl _ _).alloc HB.out.size _).alloc (by have := HB.out.size; simp; omega) _).alloc (by have := HB.out.size; simp; omega) _)⟩

set_option maxRecDepth 100000 in
theorem lifted (os : Os) (started : os.Started) (H : Type) (enc : TypeId × Value → H) :
    ReturnsInHanded {} Try.checked os 5 .any (Rows.crcJoinsSpec.pre6 enc Try.prog Try.f5 Rows.crcJoinsRow.domain false) (Rows.crcJoinsSpec.post enc Try.prog Try.f5 false true false false) := by
  refine returnsInHanded_of_change_sized (C := Try.checked) own started (by kernel_rfl) Try.func5
    (ChangeSpec.witness6 (enc := enc) (C := Try.checked) false ⟨#[], #[.slice none 0 0, .slice none 0 0], []⟩ 8 (by kernel_rfl) (by kernel_rfl) (by kernel_rfl) (by kernel_rfl)) ?_
  intro W base args ds gs before hval0 hW hcnd hsz0 _
  have hsz : (DataW.weightsEach Try.prog (Try.f5.params.toList ++ Rows.crcJoinsSpec.plain.varTypes Try.prog) (ds ++ gs)).all (· ≤ reachBytes) = true := hsz0
  have hval : ∀ (j : Nat) t v, Try.f5.params[j]? = some t → args[j]? = some v → Value.okWide Try.prog W .any base t v := hval0
  have hW' := hW
  obtain ⟨p, q, hA0, hV, rfl, hfz, hnd⟩ := hW
  have hA : DataW.TrodAll enc Try.prog W 0 (fun _ => true) true Try.f5.params.toList args.toList ds p := hA0
  rw [Try.params5] at hA hval hsz
  obtain ⟨v0, vs0, d0, ds0, p0, q0, hargs, rfl, rfl, h0, r0⟩ := trodAll_cons hA
  obtain ⟨v1, vs1, d1, ds1, p1, q1, rfl, rfl, rfl, h1, r1⟩ := trodAll_cons r0
  obtain ⟨rfl, rfl, rfl⟩ := trodAll_nil r1
  obtain rfl : args = #[v0, v1] := by cases args; simp_all
  obtain ⟨rfl, rfl⟩ := trodVars_none hV
  have k0 := h0
  have lt0 : ∀ x ∈ p0, x.block < W.heap.size := by obtain ⟨m, hm⟩ := k0; exact DataW.trod_lt m _ _ _ hm
  obtain ⟨A0, l0, c0, rfl, hlc0, hcm0, hr0, hln0⟩ := open_bytes Try.underlying23 Try.underlying5 (by kernel_rfl) (hval 0 23 v0 rfl rfl) h0
  have hre0 := reach_bytes hsz (j := 0) rfl rfl Try.underlying23 bytes_u8 hln0
  have k1 := h1
  have lt1 : ∀ x ∈ p1, x.block < W.heap.size := by obtain ⟨m, hm⟩ := k1; exact DataW.trod_lt m _ _ _ hm
  obtain ⟨A1, l1, c1, rfl, hlc1, hcm1, hr1, hln1⟩ := open_bytes Try.underlying23 Try.underlying5 (by kernel_rfl) (hval 1 23 v1 rfl rfl) h1
  have hre1 := reach_bytes hsz (j := 1) rfl rfl Try.underlying23 bytes_u8 hln1
  clear hA0 hval0 hsz0
  refine (walk A0 l0 c0 A1 l1 c1 W hlc0 hcm0 hr0 hre0 hlc1 hcm1 hr1 hre1).mono fun e W' ⟨he, bel⟩ => ?_
  subst he
  exact ⟨_, rfl, _, _, _, [], _, [], hW', trodAll_mk1 (shut_bool Try.underlying4 _), (trodAll_cons_mk (Below.trod laidOut (by kernel_rfl) (of_decide_eq_true (by kernel_rfl)) k0 bel lt0) (trodAll_cons_mk (Below.trod laidOut (by kernel_rfl) (of_decide_eq_true (by kernel_rfl)) k1 bel lt1) trodAll_mk0)), rfl, bel.frame _, fun h => by cases h⟩

theorem over : Rows.crcJoinsRow.holds Try.pinned (OpenSpec.ofChange Rows.crcJoinsSpec) :=
  OpenClaim.holds_of_wide 5 Try.f5 rfl rfl rfl rfl rfl rfl rfl ⟨rfl, rfl, rfl, rfl, rfl⟩ rfl rfl rfl rfl rfl (by kernel_rfl) Try.func5 (by kernel_rfl)
    (of_decide_eq_true (by kernel_rfl)) (by unfold Func.isWrapper; first | (rw [if_pos (by decide +kernel)]; kernel_rfl) | (rw [if_neg (by decide +kernel)]; exact ⟨rfl, rfl⟩))
    (fun os started H enc _ => lifted os started H enc)

/-- The statement. -/
theorem proved : Rows.CrcJoinsSaid := over
#print axioms proved
end Go.Proofs.Ytmnaaffiebighaa.crcJoins
