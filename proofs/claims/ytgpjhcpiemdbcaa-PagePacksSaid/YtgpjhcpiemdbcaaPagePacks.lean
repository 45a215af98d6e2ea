/- The statement PagePacks: every body is packed as the document says, or refused; it stays. No conditions. -/
import Derived.Test.YtgpjhcpiemdbcaaRows
import Derived.Test.YtgpjhcpiemdbcaaOpen
import Derived.Test.YtgpjhcpiemdbcaaPgT
import Derived.Test.YtgpjhcpiemdbcaaLent
import Derived.WalkKit
import Derived.ProofKit
import Derived.OpenShut
import Derived.ShutString
import Derived.ChangeOld
import Derived.Below
import Derived.SizedLaws
import Derived.JoinedCond
namespace Go.Proofs.Ytgpjhcpiemdbcaa.pagePacks
open Go.ChangeShapes Go.WideShapes Go.ChangeAt Go.RowKit
open Go.ChangeMaps (open_string shut_string)
set_option linter.unusedVariables false

theorem own : ownKnob Try.prog.godebug = none := by kernel_rfl
theorem laidOut : laidOutB Try.prog = true := by kernel_rfl
theorem bytes_u8 : Try.prog.bytesOf 5 = 1 := by kernel_rfl

set_option maxRecDepth 100000 in
set_option maxHeartbeats 800000 in
theorem walk (no kind : Int) (A : Option Addr) (l : List UInt8) (c : Nat) (w : World) (hn : (Lit.int .i64 no).wf = true) (_hk : (Lit.int .i64 kind).wf = true) (_hlc : l.length ≤ c) (_hcm : c ≤ maxLen) (hr : Reads w w.heap.size 1 A l.length (bv l)) (hre : l.length ≤ 140737488351232) :
    Calls Try.prog 3 #[.int .i64 no, .int .i64 kind, .slice A l.length c] w fun e w' => e = .returned (.bool true) ∧ Below w.heap.size w w' := by
  have hn2 := bounds_i64 hn
  have HR := Lib.hid hr
  have HN := Lib.hid hn2
  have HPl := Lib.hid (mPack_len no kind l)
  have HP := Lib.hid (fun W B A c hr => pack_read no kind l W B A c (by omega) hr)
  have HQ := Lib.hid (fun W B A c hr => refPack_read no kind l W B A c hn2 hr)
  generalize hp : mPack no kind l = P at *
  obtain ⟨P, pe⟩ := P
  simp only at HP HQ HPl
  clear hp hr hn2 hn _hk
  go_enter Try.func3, Try.ntmps3
  go_wp2_with (first
    | (go_at_call 8; refine (lent_any l A w.heap.size c w (by omega) HR.out).mono ?_; rintro e w1 ⟨v1, rfl, hv1, hb1⟩; obtain ⟨g1, cap1, hv, hr1⟩ := hv1.reads; subst hv; have HV1 := Lib.hid hv1; have HR1 := Lib.hid hr1; have HB1 := Lib.hid hb1; clear hv1 hr1 hb1)
    | (go_at_call 9; refine (HP.out w1 _ _ cap1 HR1.out).mono ?_; rintro e w2 ⟨A2, c2, rfl, hr2, hb2⟩; have HR2 := Lib.hid hr2; have HB2 := Lib.hid hb2; have HB02 := Lib.hid (HB1.out.trans (hb2.mono HB1.out.size)); clear hr2 hb2)
    | (go_at_call 10; refine (HQ.out w2 _ A c (HR.out.over HB02.out)).mono ?_; rintro e w3 ⟨A3, c3, rfl, hr3, hb3⟩; have HR3 := Lib.hid hr3; have HB3 := Lib.hid hb3; have HB03 := Lib.hid (HB02.out.trans (hb3.mono HB02.out.size)); clear hr3 hb3)
    | (go_at_call 11; refine (awake_any w3).mono ?_; rintro e w4 ⟨rfl, hb4⟩; have HB4 := Lib.hid hb4; have HB04 := Lib.hid (HB03.out.trans (hb4.mono HB03.out.size)); clear hb4)
    | (go_at_call 12; refine (same_any P P A2 A3 _ _ c2 c3 w4 (by have := HPl.out; unfold maxLen; omega) (by have := HPl.out; unfold maxLen; omega) (HR2.out.over (HB3.out.trans (HB4.out.mono HB3.out.size))) (HR3.out.over HB4.out)).mono ?_; rintro e w5 ⟨he5, hb5⟩; rw [decide_eq_true rfl] at he5; subst he5; have HB5 := Lib.hid hb5; have HB05 := Lib.hid (HB04.out.trans (hb5.mono HB04.out.size)); clear hb5)
    | (go_at_call 13; refine (kept_any l _ A _ c w.heap.size w5 (by omega) (HV1.out.below (HB2.out.trans ((HB3.out.trans ((HB4.out.trans (HB5.out.mono HB4.out.size)).mono HB3.out.size)).mono HB2.out.size))) (HR.out.over HB05.out)).mono ?_; rintro e w6 ⟨rfl, hb6⟩)
    | fail)
  go_ret
  exact ⟨rfl, HB05.out.trans (hb6.mono HB05.out.size)⟩

set_option maxRecDepth 100000 in
theorem lifted (os : Os) (started : os.Started) (H : Type) (enc : TypeId × Value → H) :
    ReturnsInHanded {} Try.checked os 3 .any (Rows.pagePacksSpec.pre6 enc Try.prog Try.f3 Rows.pagePacksRow.domain false) (Rows.pagePacksSpec.post enc Try.prog Try.f3 false true false false) := by
  refine returnsInHanded_of_change_sized (C := Try.checked) own started (by kernel_rfl) Try.func3
    (ChangeSpec.witness6 (enc := enc) (C := Try.checked) false ⟨#[], #[.int .i64 0, .int .i64 0, .slice none 0 0], []⟩ 8 (by kernel_rfl) (by kernel_rfl) (by kernel_rfl) (by kernel_rfl)) ?_
  intro W base args ds gs before hval0 hW hcnd hsz0 _
  have hsz : (DataW.weightsEach Try.prog (Try.f3.params.toList ++ Rows.pagePacksSpec.plain.varTypes Try.prog) (ds ++ gs)).all (· ≤ reachBytes) = true := hsz0
  have hval : ∀ (j : Nat) t v, Try.f3.params[j]? = some t → args[j]? = some v → Value.okWide Try.prog W .any base t v := hval0
  have hW' := hW
  obtain ⟨p, q, hA0, hV, rfl, hfz, hnd⟩ := hW
  have hA : DataW.TrodAll enc Try.prog W 0 (fun _ => true) true Try.f3.params.toList args.toList ds p := hA0
  rw [Try.params3] at hA hval hsz
  obtain ⟨v0, vs0, d0, ds0, p0, q0, hargs, rfl, rfl, h0, r0⟩ := trodAll_cons hA
  obtain ⟨v1, vs1, d1, ds1, p1, q1, rfl, rfl, rfl, h1, r1⟩ := trodAll_cons r0
  obtain ⟨v2, vs2, d2, ds2, p2, q2, rfl, rfl, rfl, h2, r2⟩ := trodAll_cons r1
  obtain ⟨rfl, rfl, rfl⟩ := trodAll_nil r2
  obtain rfl : args = #[v0, v1, v2] := by cases args; simp_all
  obtain ⟨rfl, rfl⟩ := trodVars_none hV
  obtain ⟨a0, rfl, rfl, rfl, w0⟩ := open_int Try.underlying3 (hval 0 3 v0 rfl rfl) h0
  obtain ⟨a1, rfl, rfl, rfl, w1⟩ := open_int Try.underlying3 (hval 1 3 v1 rfl rfl) h1
  have k2 := h2
  have lt2 : ∀ x ∈ p2, x.block < W.heap.size := by obtain ⟨m, hm⟩ := k2; exact DataW.trod_lt m _ _ _ hm
  obtain ⟨A2, l2, c2, rfl, hlc2, hcm2, hr2, hln2⟩ := open_bytes Try.underlying22 Try.underlying5 (by kernel_rfl) (hval 2 22 v2 rfl rfl) h2
  have hre2 := reach_bytes hsz (j := 2) rfl rfl Try.underlying22 bytes_u8 hln2
  clear hA0 hval0 hsz0
  refine (walk a0 a1 A2 l2 c2 W w0 w1 hlc2 hcm2 hr2 hre2).mono fun e W' ⟨he, bel⟩ => ?_
  subst he
  exact ⟨_, rfl, _, _, _, [], _, [], hW', trodAll_mk1 (shut_bool Try.underlying4 _), (trodAll_cons_mk (shut_int Try.underlying3 w0) (trodAll_cons_mk (shut_int Try.underlying3 w1) (trodAll_cons_mk (Below.trod laidOut (by kernel_rfl) (of_decide_eq_true (by kernel_rfl)) k2 bel lt2) trodAll_mk0))), rfl, bel.frame _, fun h => by cases h⟩

theorem over : Rows.pagePacksRow.holds Try.pinned (OpenSpec.ofChange Rows.pagePacksSpec) :=
  OpenClaim.holds_of_wide 3 Try.f3 rfl rfl rfl rfl rfl rfl rfl ⟨rfl, rfl, rfl, rfl, rfl⟩ rfl rfl rfl rfl rfl (by kernel_rfl) Try.func3 (by kernel_rfl)
    (of_decide_eq_true (by kernel_rfl)) (by unfold Func.isWrapper; first | (rw [if_pos (by decide +kernel)]; kernel_rfl) | (rw [if_neg (by decide +kernel)]; exact ⟨rfl, rfl⟩))
    (fun os started H enc _ => lifted os started H enc)

/-- The statement. -/
theorem proved : Rows.PagePacksSaid := over
#print axioms proved
end Go.Proofs.Ytgpjhcpiemdbcaa.pagePacks
