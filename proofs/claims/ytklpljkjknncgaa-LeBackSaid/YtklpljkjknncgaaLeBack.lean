/- The statement LeBack: a number that is written is read as it was, and what is read is written as it was. No conditions. -/
import Derived.Test.YtklpljkjknncgaaRows
import Derived.Test.YtklpljkjknncgaaOpen
import Derived.Test.YtklpljkjknncgaaLeA
import Derived.Test.YtklpljkjknncgaaLeC
import Derived.Test.YtklpljkjknncgaaLeH
import Derived.Test.YtklpljkjknncgaaLeM
import Derived.WalkKit
import Derived.ProofKit
import Derived.OpenShut
import Derived.ShutString
import Derived.ChangeOld
import Derived.Below
import Derived.SizedLaws
namespace Go.Proofs.Ytklpljkjknncgaa.leBack
open Go.ChangeShapes Go.WideShapes Go.ChangeAt Go.RowKit
open Go.ChangeMaps (open_string shut_string)
set_option linter.unusedVariables false

theorem own : ownKnob Try.prog.godebug = none := by kernel_rfl
theorem laidOut : laidOutB Try.prog = true := by kernel_rfl
theorem bytes_u8 : Try.prog.bytesOf 5 = 1 := by kernel_rfl

set_option maxHeartbeats 800000 in
theorem walk (n width : Int) (A : Option Addr) (l : List UInt8) (c : Nat) (w : World) (hn : (Lit.int .i64 n).wf = true) (_hw : (Lit.int .i64 width).wf = true) (_hlc : l.length ≤ c) (_hcm : c ≤ maxLen) (hr : Reads w w.heap.size 1 A l.length (bv l)) (hre : l.length ≤ 140737488351232) :
    Calls Try.prog 5 #[.int .i64 n, .int .i64 width, .slice A l.length c] w fun e w' => e = .returned (.bool true) ∧ Below w.heap.size w w' := by
  have hn1 := (bounds_i64 hn).2
  have hlm : l.length ≤ maxLen := by unfold maxLen; omega
  have HL := Lib.hid hlm
  clear _hlc _hcm hlm hn _hw
  have keyE : (∃ a W : Nat, n = a ∧ width = W ∧ 1 ≤ W ∧ W ≤ 8 ∧ a < 256 ^ W ∧ mBytes n width = (digs a W, 0)) ∨ ((mBytes n width).2 == 0) = false := by
    by_cases he : (mBytes n width).2 = 0
    · obtain ⟨h1, h8, h0, hlt, hb⟩ := mBytes_ok' he
      obtain ⟨a, rfl⟩ := Int.eq_ofNat_of_zero_le h0
      obtain ⟨W, rfl⟩ := Int.eq_ofNat_of_zero_le (show 0 ≤ width by omega)
      exact .inl ⟨a, W, rfl, rfl, by omega, by omega, by simpa using hlt, by simpa using hb⟩
    · exact .inr (by rw [beq_eq_false_iff_ne]; exact he)
  have keyF : (1 ≤ l.length ∧ l.length ≤ 8 ∧ num l ≤ 9223372036854775807 ∧ Hid (mInt l = ((num l : Int), 0))) ∨ (((mInt l).2 != 0) = true ∧ Hid ((mInt l).1 = 0)) := by
    by_cases he : (mInt l).2 = 0
    · exact .inl (mInt_ok he)
    · exact .inr ⟨by rw [bne_iff_ne]; exact he, mInt_zero he⟩
  have KF := Lib.hid keyF
  clear keyF
  have KE := Lib.hid keyE
  clear keyE
  rcases KE.out with ⟨a, W, rfl, rfl, h1, h8, hlt, hb⟩ | he
  all_goals clear KE
  have HB0 := fun W' => Lib.hid (leBytes_any a W W' hn1)
  rw [hb] at HB0
  have hI := mInt_digs a W h1 h8 hlt (by omega)
  have HI := Lib.hid hI
  clear hI hb hlt
  go_enter Try.func5, Try.ntmps5
  go_wp2_with fail
  refine (awake_any w).mono ?_
  rintro e w1 ⟨rfl, hb1⟩
  have HB1 := Lib.hid hb1
  clear hb1
  go_wp2_with fail
  refine (HB0 w1).out.mono ?_
  rintro e w2 ⟨v2, rfl, ho2, hb2⟩
  rw [digs_length] at ho2
  obtain ⟨A2, c2, rfl, _, _, hr2, _⟩ := own_form ho2
  have HB2 := Lib.hid (HB1.out.trans (hb2.mono HB1.out.size))
  have HR2 := Lib.hid hr2
  clear ho2 hb2 hr2
  have hcall := leInt_any (digs a W) A2 _ c2 w2 (by rw [digs_length]; unfold maxLen; omega) (by rw [digs_length]; exact HR2.out)
  rw [HI.out, digs_length] at hcall
  have HC := Lib.hid hcall
  clear hcall
  go_wp2_with fail
  refine HC.out.mono ?_
  rintro e w' ⟨rfl, rfl⟩
  go_wp2_with fail
  rotate_left
  have HB0 := fun W' => Lib.hid (leBytes_any n width W' hn1)
  generalize mBytes n width = r at *
  go_enter Try.func5, Try.ntmps5
  go_wp2_with fail
  refine (awake_any w).mono ?_
  rintro e w1 ⟨rfl, hb1⟩
  have HB1 := Lib.hid hb1
  clear hb1
  go_wp2_with fail
  refine (HB0 w1).out.mono ?_
  rintro e w2 ⟨v2, rfl, ho2, hb2⟩
  have HB2 := Lib.hid (HB1.out.trans (hb2.mono HB1.out.size))
  clear ho2 hb2
  go_wp2_with fail
  all_goals
    have hcallF := leInt_any l A _ c w2 HL.out (hr.below HB2.out)
    rcases KF.out with ⟨l1, l8, ln, hi⟩ | ⟨hne, hz⟩
    · rw [hi.out] at hcallF
      have HF := Lib.hid hcallF
      have hcallB := leBytes_any (num l : Int) (l.length : Int) w2 (by omega)
      rw [mBytes_num l1 l8] at hcallB
      have HB := Lib.hid hcallB
      clear hcallF hcallB KF
      refine HF.out.mono ?_
      rintro e w' ⟨rfl, rfl⟩
      go_wp2_with fail
      refine HB.out.mono ?_
      rintro e w3 ⟨v3, rfl, ho3, hb3⟩
      obtain ⟨A3, c3, rfl, _, _, hr3, _⟩ := own_form ho3
      have HS := Lib.hid (same_any l l A3 A _ _ c3 c w3 HL.out HL.out hr3 ((hr.below HB2.out).over hb3))
      have HB3 := Lib.hid (HB2.out.trans (hb3.mono HB2.out.size))
      clear hb3 ho3 hr3
      rw [show decide (l = l) = true from by simp] at HS
      go_wp2_with fail
      refine HS.out.mono ?_
      rintro e w4 ⟨rfl, hb4⟩
      go_wp2
      go_ret
      exact ⟨by simp, HB3.out.trans (hb4.mono HB3.out.size)⟩
    · rw [hz.out] at hcallF
      have HF := Lib.hid hcallF
      clear hcallF KF
      generalize (mInt l).2 = k at *
      refine HF.out.mono ?_
      rintro e w' ⟨rfl, rfl⟩
      go_wp2
      go_ret
      exact ⟨by simp, HB2.out⟩

set_option maxRecDepth 100000 in
theorem lifted (os : Os) (started : os.Started) (H : Type) (enc : TypeId × Value → H) :
    ReturnsInHanded {} Try.checked os 5 .any (Rows.leBackSpec.pre6 enc Try.prog Try.f5 Rows.leBackRow.domain false) (Rows.leBackSpec.post enc Try.prog Try.f5 false true false false) := by
  refine returnsInHanded_of_change_sized (C := Try.checked) own started (by kernel_rfl) Try.func5
    (ChangeSpec.witness6 (enc := enc) (C := Try.checked) false ⟨#[], #[.int .i64 0, .int .i64 0, .slice none 0 0], []⟩ 8 (by kernel_rfl) (by kernel_rfl) (by kernel_rfl) (by kernel_rfl)) ?_
  intro W base args ds gs before hval0 hW hcnd hsz0 _
  have hsz : (DataW.weightsEach Try.prog (Try.f5.params.toList ++ Rows.leBackSpec.plain.varTypes Try.prog) (ds ++ gs)).all (· ≤ reachBytes) = true := hsz0
  have hval : ∀ (j : Nat) t v, Try.f5.params[j]? = some t → args[j]? = some v → Value.okWide Try.prog W .any base t v := hval0
  have hW' := hW
  obtain ⟨p, q, hA0, hV, rfl, hfz, hnd⟩ := hW
  have hA : DataW.TrodAll enc Try.prog W 0 (fun _ => true) true Try.f5.params.toList args.toList ds p := hA0
  rw [Try.params5] at hA hval hsz
  obtain ⟨v0, vs0, d0, ds0, p0, q0, hargs, rfl, rfl, h0, r0⟩ := trodAll_cons hA
  obtain ⟨v1, vs1, d1, ds1, p1, q1, rfl, rfl, rfl, h1, r1⟩ := trodAll_cons r0
  obtain ⟨v2, vs2, d2, ds2, p2, q2, rfl, rfl, rfl, h2, r2⟩ := trodAll_cons r1
  obtain ⟨rfl, rfl, rfl⟩ := trodAll_nil r2
  obtain rfl : args = #[v0, v1, v2] := by cases args; simp_all
  obtain ⟨rfl, rfl⟩ := trodVars_none hV
  obtain ⟨a0, rfl, rfl, rfl, w0⟩ := open_int Try.underlying3 (hval 0 3 v0 rfl rfl) h0
  obtain ⟨a1, rfl, rfl, rfl, w1⟩ := open_int Try.underlying3 (hval 1 3 v1 rfl rfl) h1
  have k2 := h2
  have lt2 : ∀ x ∈ p2, x.block < W.heap.size := by obtain ⟨m, hm⟩ := k2; exact DataW.trod_lt m _ _ _ hm
  obtain ⟨A2, l2, c2, rfl, hlc2, hcm2, hr2, hln2⟩ := open_bytes Try.underlying22 Try.underlying5 (by kernel_rfl) (hval 2 22 v2 rfl rfl) h2
  have hre2 := reach_bytes hsz (j := 2) rfl rfl Try.underlying22 bytes_u8 hln2
  clear hA0 hval0 hsz0
  refine (walk a0 a1 A2 l2 c2 W w0 w1 hlc2 hcm2 hr2 hre2).mono fun e W' ⟨he, bel⟩ => ?_
  subst he
  exact ⟨_, rfl, _, _, _, [], _, [], hW', trodAll_mk1 (shut_bool Try.underlying4 _), (trodAll_cons_mk (shut_int Try.underlying3 w0) (trodAll_cons_mk (shut_int Try.underlying3 w1) (trodAll_cons_mk (Below.trod laidOut (by kernel_rfl) (of_decide_eq_true (by kernel_rfl)) k2 bel lt2) trodAll_mk0))), rfl, bel.frame _, fun h => by cases h⟩

theorem over : Rows.leBackRow.holds Try.pinned (OpenSpec.ofChange Rows.leBackSpec) :=
  OpenClaim.holds_of_wide 5 Try.f5 rfl rfl rfl rfl rfl rfl rfl ⟨rfl, rfl, rfl, rfl, rfl⟩ rfl rfl rfl rfl rfl (by kernel_rfl) Try.func5 (by kernel_rfl)
    (of_decide_eq_true (by kernel_rfl)) (by unfold Func.isWrapper; first | (rw [if_pos (by decide +kernel)]; kernel_rfl) | (rw [if_neg (by decide +kernel)]; exact ⟨rfl, rfl⟩))
    (fun os started H enc _ => lifted os started H enc)

/-- The statement. -/
theorem proved : Rows.LeBackSaid := over
#print axioms proved
end Go.Proofs.Ytklpljkjknncgaa.leBack
