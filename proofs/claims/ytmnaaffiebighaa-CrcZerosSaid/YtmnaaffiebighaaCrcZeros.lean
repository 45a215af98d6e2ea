/- The statement CrcZeros: bytes 0 behind a text, or ahead of it, count as others. No conditions. -/
import Derived.Test.YtmnaaffiebighaaRows
import Derived.Test.YtmnaaffiebighaaOpen
import Derived.Test.YtmnaaffiebighaaCrcC
import Derived.Test.YtmnaaffiebighaaCopy
import Derived.WalkKit
import Derived.ProofKit
import Derived.OpenShut
import Derived.ShutString
import Derived.ChangeOld
import Derived.Below
import Derived.SizedLaws
namespace Go.Proofs.Ytmnaaffiebighaa.crcZeros
open Go.ChangeShapes Go.WideShapes Go.ChangeAt Go.RowKit
open Go.ChangeMaps (open_string shut_string)
set_option linter.unusedVariables false

theorem own : ownKnob Try.prog.godebug = none := by kernel_rfl
theorem laidOut : laidOutB Try.prog = true := by kernel_rfl
theorem bytes_u8 : Try.prog.bytesOf 5 = 1 := by kernel_rfl

theorem reads_made (W : World) (n : Nat) (hn : (n : Int) ≤ 2000) : Reads (W.alloc (.cells (madeCells #[Value.int IntKind.u8 0] n) 5)) (W.heap.size + 1) 1 (some ⟨W.heap.size, 0, none⟩) n (bv (List.replicate n (0 : UInt8))) := by
  have hrow := World.rowIs_made W (.int .u8 0) n 5
  have h := own_of_row (base := W.heap.size) hrow (Nat.le_refl _) (by unfold maxLen; omega) (xs := bv (List.replicate n (0 : UInt8))) (by simp [bv]) (fun j hj => by simp [bv, hj])
  have hr := Reads.of_own h
  simpa using hr

set_option maxHeartbeats 400000 in
theorem walk_far (A : Option Addr) (l : List UInt8) (c : Nat) (n : Int) (w : World) (hl : l.length ≤ 140737488351232) (h : n < 0 ∨ 0 ≤ n ∧ 2000 < n ∨ (0 ≤ n ∧ n ≤ 2000) ∧ (5000 : Int) < (l.length : Int)) :
    Calls Try.prog 9 #[.slice A l.length c, .int .i64 n] w fun e w' => e = .returned (.bool true) ∧ Below w.heap.size w w' := by
  rcases h with h1 | ⟨h1, h2⟩ | ⟨⟨h1, h2⟩, h3⟩
  all_goals
    go_enter Try.func9, Try.ntmps9
    go_wp2_with fail
    refine (awake_any _).mono ?_
    rintro e w1 ⟨rfl, hb1⟩
    go_wp2_with fail
    refine (awake_any _).mono ?_
    rintro e w2 ⟨rfl, hb2⟩
    go_wp2
    go_ret
    exact ⟨rfl, hb1.trans (hb2.mono hb1.size)⟩

set_option maxHeartbeats 800000 in
theorem walk_near (A : Option Addr) (l : List UInt8) (c n : Nat) (w : World) (hr : Reads w w.heap.size 1 A l.length (bv l)) (hl : (l.length : Int) ≤ 5000) (hn : (n : Int) ≤ 2000) :
    Calls Try.prog 9 #[.slice A l.length c, .int .i64 n] w fun e w' => e = .returned (.bool true) ∧ Below w.heap.size w w' := by
  have HR := Lib.hid hr
  clear hr
  have hn0 : 0 ≤ (n : Int) := by omega
  have hmk := run_make_row' (P := Try.prog) 23 5 (.int .u8 0) 1 Try.underlying23 u8info rfl .i64 .i64 n (by omega) (by omega)
  have hz : (List.replicate n (0 : UInt8)).length = n := List.length_replicate
  have H1 := sumOf_append l (List.replicate n (0 : UInt8))
  have H2 := sumOf_append (List.replicate n (0 : UInt8)) l
  have hl1 := sumOf_lt l
  have hl2 := sumOf_lt (List.replicate n (0 : UInt8))
  have HZR := fun (W : World) => Lib.hid (reads_made W n hn)
  generalize List.replicate n (0 : UInt8) = z at *
  subst hz
  have H1' := Lib.hid H1
  have H2' := Lib.hid H2
  clear H1 H2
  go_enter Try.func9, Try.ntmps9
  go_wp2_with fail
  refine (awake_any _).mono ?_
  rintro e w1 ⟨rfl, hb1⟩
  have HB := Lib.hid hb1
  clear hb1
  have HR1 := Lib.hid ((HR.out.below HB.out).here)
  go_wp2_with fail
  have HZ1 := Lib.hid ((HZR w1).out)
  have HRz := Lib.hid (HR1.out.alloc (Nat.le_refl _) (.cells (madeCells #[Value.int IntKind.u8 0] z.length) 5))
  have HBz := Lib.hid (HB.out.alloc HB.out.size (.cells (madeCells #[Value.int IntKind.u8 0] z.length) 5))
  clear hmk HZR HR1
  refine (of_twoB l z A (some ⟨w1.heap.size, 0, none⟩) _ _ c z.length (w1.heap.size + 1) 23 (w1.alloc (.cells (madeCells #[Value.int IntKind.u8 0] z.length) 5)) (by simp) (by omega) (by omega) HRz.out HZ1.out).mono ?_
  rintro e w2 ⟨rfl, hb2⟩
  have HR2 := Lib.hid (HRz.out.here.below hb2).here
  have HZ2 := Lib.hid (HZ1.out.here.below hb2).here
  have HB2 := Lib.hid (HBz.out.trans (hb2.mono HBz.out.size))
  clear hb2 HRz HZ1 HBz HB
  go_wp2_with fail
  refine (of_oneB l A _ c _ _ w2 rfl (by omega) HR2.out).mono ?_
  rintro e w3 ⟨rfl, hb3⟩
  have HR3 := Lib.hid (HR2.out.below hb3).here
  have HZ3 := Lib.hid (HZ2.out.below hb3).here
  have HB3 := Lib.hid (HB2.out.trans (hb3.mono HB2.out.size))
  clear hb3 HR2 HZ2 HB2
  go_wp2_with fail
  refine (of_oneB z _ _ z.length _ _ w3 rfl (by omega) HZ3.out).mono ?_
  rintro e w4 ⟨rfl, hb4⟩
  have HR4 := Lib.hid (HR3.out.below hb4).here
  have HZ4 := Lib.hid (HZ3.out.below hb4).here
  have HB4 := Lib.hid (HB3.out.trans (hb4.mono HB3.out.size))
  clear hb4 HR3 HZ3 HB3
  go_wp2_with fail
  refine (join_any _ _ z.length _ hl1 hl2 (by omega)).mono ?_
  rintro e w5 ⟨rfl, rfl⟩
  rw [H1'.out]
  rw [show Int.toNat (z.length : Int) = z.length from Int.toNat_natCast _]
  have hj1 : ((joinOf (sumOf l) (sumOf z) z.length : Int) == (joinOf (sumOf l) (sumOf z) z.length : Int)) = true := by rw [beq_iff_eq]
  generalize joinOf (sumOf l) (sumOf z) z.length = r1 at *
  go_wp2_with fail
  refine (of_twoB z l _ A _ _ z.length c _ 23 w4 rfl (by omega) (by omega) HZ4.out HR4.out).mono ?_
  rintro e w5 ⟨rfl, hb5⟩
  have HR5 := Lib.hid (HR4.out.below hb5).here
  have HZ5 := Lib.hid (HZ4.out.below hb5).here
  have HB5 := Lib.hid (HB4.out.trans (hb5.mono HB4.out.size))
  clear hb5 HR4 HZ4 HB4
  go_wp2_with fail
  refine (of_oneB z _ _ z.length _ _ w5 rfl (by omega) HZ5.out).mono ?_
  rintro e w6 ⟨rfl, hb6⟩
  have HR6 := Lib.hid (HR5.out.below hb6).here
  have HB6 := Lib.hid (HB5.out.trans (hb6.mono HB5.out.size))
  clear hb6 HR5 HZ5 HB5
  go_wp2_with fail
  refine (of_oneB l A _ c _ _ w6 rfl (by omega) HR6.out).mono ?_
  rintro e w7 ⟨rfl, hb7⟩
  have HB7 := Lib.hid (HB6.out.trans (hb7.mono HB6.out.size))
  clear hb7 HR6 HB6
  go_wp2_with fail
  refine (join_any _ _ l.length _ hl2 hl1 (by omega)).mono ?_
  rintro e w8 ⟨rfl, rfl⟩
  rw [H2'.out]
  rw [show Int.toNat (l.length : Int) = l.length from Int.toNat_natCast _]
  generalize joinOf (sumOf z) (sumOf l) l.length = r2 at *
  go_wp2
  go_ret
  exact ⟨rfl, HB7.out⟩

theorem walk (A : Option Addr) (l : List UInt8) (c : Nat) (n : Int) (w : World) (_hlc : l.length ≤ c) (_hcm : c ≤ maxLen) (hr : Reads w w.heap.size 1 A l.length (bv l)) (hre : l.length ≤ 140737488351232) (_hn : (Lit.int .i64 n).wf = true) :
    Calls Try.prog 9 #[.slice A l.length c, .int .i64 n] w fun e w' => e = .returned (.bool true) ∧ Below w.heap.size w w' := by
  by_cases h : 0 ≤ n ∧ n ≤ 2000 ∧ (l.length : Int) ≤ 5000
  · obtain ⟨n, rfl⟩ := Int.eq_ofNat_of_zero_le h.1
    exact walk_near A l c n w hr h.2.2 h.2.1
  · exact walk_far A l c n w hre (by omega)

set_option maxRecDepth 100000 in
theorem lifted (os : Os) (started : os.Started) (H : Type) (enc : TypeId × Value → H) :
    ReturnsInHanded {} Try.checked os 9 .any (Rows.crcZerosSpec.pre6 enc Try.prog Try.f9 Rows.crcZerosRow.domain false) (Rows.crcZerosSpec.post enc Try.prog Try.f9 false true false false) := by
  refine returnsInHanded_of_change_sized (C := Try.checked) own started (by kernel_rfl) Try.func9
    (ChangeSpec.witness6 (enc := enc) (C := Try.checked) false ⟨#[], #[.slice none 0 0, .int .i64 0], []⟩ 8 (by kernel_rfl) (by kernel_rfl) (by kernel_rfl) (by kernel_rfl)) ?_
  intro W base args ds gs before hval0 hW hcnd hsz0 _
  have hsz : (DataW.weightsEach Try.prog (Try.f9.params.toList ++ Rows.crcZerosSpec.plain.varTypes Try.prog) (ds ++ gs)).all (· ≤ reachBytes) = true := hsz0
  have hval : ∀ (j : Nat) t v, Try.f9.params[j]? = some t → args[j]? = some v → Value.okWide Try.prog W .any base t v := hval0
  have hW' := hW
  obtain ⟨p, q, hA0, hV, rfl, hfz, hnd⟩ := hW
  have hA : DataW.TrodAll enc Try.prog W 0 (fun _ => true) true Try.f9.params.toList args.toList ds p := hA0
  rw [Try.params9] at hA hval hsz
  obtain ⟨v0, vs0, d0, ds0, p0, q0, hargs, rfl, rfl, h0, r0⟩ := trodAll_cons hA
  obtain ⟨v1, vs1, d1, ds1, p1, q1, rfl, rfl, rfl, h1, r1⟩ := trodAll_cons r0
  obtain ⟨rfl, rfl, rfl⟩ := trodAll_nil r1
  obtain rfl : args = #[v0, v1] := by cases args; simp_all
  obtain ⟨rfl, rfl⟩ := trodVars_none hV
  have k0 := h0
  have lt0 : ∀ x ∈ p0, x.block < W.heap.size := by obtain ⟨m, hm⟩ := k0; exact DataW.trod_lt m _ _ _ hm
  obtain ⟨A0, l0, c0, rfl, hlc0, hcm0, hr0, hln0⟩ := open_bytes Try.underlying23 Try.underlying5 (by kernel_rfl) (hval 0 23 v0 rfl rfl) h0
  have hre0 := reach_bytes hsz (j := 0) rfl rfl Try.underlying23 bytes_u8 hln0
  obtain ⟨a1, rfl, rfl, rfl, w1⟩ := open_int Try.underlying3 (hval 1 3 v1 rfl rfl) h1
  clear hA0 hval0 hsz0
  refine (walk A0 l0 c0 a1 W hlc0 hcm0 hr0 hre0 w1).mono fun e W' ⟨he, bel⟩ => ?_
  subst he
  exact ⟨_, rfl, _, _, _, [], _, [], hW', trodAll_mk1 (shut_bool Try.underlying4 _), (trodAll_cons_mk (Below.trod laidOut (by kernel_rfl) (of_decide_eq_true (by kernel_rfl)) k0 bel lt0) (trodAll_cons_mk (shut_int Try.underlying3 w1) trodAll_mk0)), rfl, bel.frame _, fun h => by cases h⟩

theorem over : Rows.crcZerosRow.holds Try.pinned (OpenSpec.ofChange Rows.crcZerosSpec) :=
  OpenClaim.holds_of_wide 9 Try.f9 rfl rfl rfl rfl rfl rfl rfl ⟨rfl, rfl, rfl, rfl, rfl⟩ rfl rfl rfl rfl rfl (by kernel_rfl) Try.func9 (by kernel_rfl)
    (of_decide_eq_true (by kernel_rfl)) (by unfold Func.isWrapper; first | (rw [if_pos (by decide +kernel)]; kernel_rfl) | (rw [if_neg (by decide +kernel)]; exact ⟨rfl, rfl⟩))
    (fun os started H enc _ => lifted os started H enc)

/-- The statement. -/
theorem proved : Rows.CrcZerosSaid := over
#print axioms proved
end Go.Proofs.Ytmnaaffiebighaa.crcZeros
