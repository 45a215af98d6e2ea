/- The statement LeParts: what a reader takes in two parts, one behind the other, is what it takes at once. No conditions. -/
import Derived.Test.YtklpljkjknncgaaRows
import Derived.Test.YtklpljkjknncgaaOpen
import Derived.Test.YtklpljkjknncgaaLeC
import Derived.Test.YtklpljkjknncgaaLeE
import Derived.Test.YtklpljkjknncgaaLeG
import Derived.Test.YtklpljkjknncgaaLeH
import Derived.WalkKit
import Derived.ProofKit
import Derived.OpenShut
import Derived.ShutString
import Derived.ChangeOld
import Derived.Below
import Derived.SizedLaws
namespace Go.Proofs.Ytklpljkjknncgaa.leParts
open Go.ChangeShapes Go.WideShapes Go.ChangeAt Go.RowKit
open Go.ChangeMaps (open_string shut_string)
set_option linter.unusedVariables false

theorem own : ownKnob Try.prog.godebug = none := by kernel_rfl
theorem laidOut : laidOutB Try.prog = true := by kernel_rfl
theorem bytes_u8 : Try.prog.bytesOf 5 = 1 := by kernel_rfl

set_option maxHeartbeats 800000 in
theorem walk_out (A : Option Addr) (len c : Nat) (n m : Int) (w : World) (hlen : len ≤ 140737488351232) (hn : -9223372036854775808 ≤ n ∧ n ≤ 9223372036854775807) (hm : -9223372036854775808 ≤ m ∧ m ≤ 9223372036854775807) (h : n < 0 ∨ m < 0 ∨ (len : Int) < n ∨ (len : Int) - n < m) :
    Calls Try.prog 10 #[.slice A len c, .int .i64 n, .int .i64 m] w fun e w' => e = .returned (.bool true) ∧ Below w.heap.size w w' := by
  have key : n < 0 ∨ (0 ≤ n ∧ m < 0) ∨ (0 ≤ n ∧ 0 ≤ m ∧ (len : Int) < n) ∨ (0 ≤ n ∧ 0 ≤ m ∧ n ≤ (len : Int) ∧ (len : Int) - n < m) := by omega
  clear h
  rcases key with h | h | h | h
  all_goals
    go_enter Try.func10, Try.ntmps10
    go_wp2_with fail
    refine (awake_any w).mono ?_
    rintro e w1 ⟨rfl, hb1⟩
    have HB1 := Lib.hid hb1
    clear hb1
    go_wp2_with fail
    refine (awake_any w1).mono ?_
    rintro e w2 ⟨rfl, hb2⟩
    go_wp2
    go_ret
    exact ⟨rfl, HB1.out.trans (hb2.mono HB1.out.size)⟩

theorem grown_to_below {a b c : World} {g B : Nat} (h : Below B a b) (hg : b.grownBy c (some g)) (hB : B ≤ b.heap.size) (hgB : B ≤ g) : Below B a c :=
  h.grown hg hB (fun k hk => by injection hk with hk; omega)

set_option maxHeartbeats 1600000 in
theorem walk_has (A : Option Addr) (l : List UInt8) (c : Nat) (n m : Nat) (w : World) (hr : Reads w w.heap.size 1 A l.length (bv l)) (hre : l.length ≤ 140737488351232) (hnm : n + m ≤ l.length) :
    Calls Try.prog 10 #[.slice A l.length c, .int .i64 n, .int .i64 m] w fun e w' => e = .returned (.bool true) ∧ Below w.heap.size w w' := by
  have hT1 : mRdTake l 0 n = (l.take n, 0, n) := by
    unfold mRdTake; rw [if_neg (by omega), if_neg (by simp only [Int.toNat_natCast]; omega)]; simp
  have hT2 : mRdTake l n m = ((l.drop n).take m, 0, n + m) := by
    unfold mRdTake; rw [if_neg (by omega), if_neg (by simp only [Int.toNat_natCast]; omega)]; simp
  have hT3 : mRdTake l 0 ((n : Int) + (m : Int)) = (l.take (n + m), 0, n + m) := by
    unfold mRdTake; rw [if_neg (by omega), if_neg (by omega)]; simp; omega
  have hL1 : (l.take n).length = n := by rw [List.length_take]; omega
  have hL2 : ((l.drop n).take m).length = m := by simp; omega
  have hL3 : (l.take (n + m)).length = n + m := by rw [List.length_take]; omega
  have hS : l.take n ++ (l.drop n).take m = l.take (n + m) := by rw [List.take_add]
  have HT1 := Lib.hid hT1
  have HT2 := Lib.hid hT2
  have HT3 := Lib.hid hT3
  have HL1 := Lib.hid hL1
  have HL2 := Lib.hid hL2
  have HL3 := Lib.hid hL3
  have HS := Lib.hid hS
  clear hT1 hT2 hT3 hL1 hL2 hL3 hS
  go_enter Try.func10, Try.ntmps10
  go_wp2_with fail
  refine (awake_any w).mono ?_
  rintro e w1 ⟨rfl, hb1⟩
  have HB1 := Lib.hid hb1
  have hr1 := hr.below hb1
  clear hb1 hr
  go_wp2_with fail
  refine (on_any l A _ c w1 (by omega) hr1).mono ?_
  rintro e w2 ⟨g1, rfl, hg1, hd1, hb2⟩
  have hr2 := hr1.over hb2
  have HB2 := Lib.hid (HB1.out.trans (hb2.mono HB1.out.size))
  have hz2 := hb2.size
  clear hr1 hb2
  go_wp2_with fail
  refine (on_any l A _ c w2 (by omega) hr2).mono ?_
  rintro e w3 ⟨g2, rfl, hg2, hd2, hb3⟩
  have hd1' := hd1.below hb3
  have HB3 := Lib.hid (HB2.out.trans (hb3.mono HB2.out.size))
  have hz3 := hb3.size
  clear hr2 hb3
  have hg1' := hd1.2.1.2
  have hg2' := hd2.2.1.2
  have hC1 := rdTake_any n w3 _ _ g1 l 0 hd1' (by omega)
  rw [HT1.out] at hC1
  have HC1 := Lib.hid hC1
  clear hd1 hC1 hd1'
  go_wp2_with fail
  refine HC1.out.mono ?_
  rintro e w4 ⟨v4, rfl, ho4, ht4⟩
  rw [HL1.out] at ho4
  have hC2 := rdTake_any m w4 _ _ g1 l n ht4.2 (by omega)
  rw [HT2.out] at hC2
  have HC2 := Lib.hid hC2
  have hd2' := hd2.grown ht4.1 (by omega) (Nat.le_refl _)
  have HB4 := Lib.hid (grown_to_below HB3.out ht4.1 (HB3.out.size) (by have := HB1.out.size; omega))
  have hz4 := ht4.1.size
  clear HC1 hC2 hd2 ht4
  go_wp2_with fail
  refine HC2.out.mono ?_
  rintro e w5 ⟨v5, rfl, ho5, ht5⟩
  rw [HL2.out] at ho5
  have ho4' := own_grown ho4 ht5.1 (by omega)
  have hd2'' := hd2'.grown ht5.1 (by omega) (by omega)
  have HB5 := Lib.hid (grown_to_below HB4.out ht5.1 (HB4.out.size) (by have := HB1.out.size; omega))
  have hz5 := ht5.1.size
  have hC3 := rdTake_any ((n : Int) + (m : Int)) w5 _ _ g2 l 0 hd2'' (by omega)
  rw [HT3.out] at hC3
  have HC3 := Lib.hid hC3
  have hd1 := ht5.2
  clear HC2 hC3 ho4 hd2' hd2'' ht5
  go_wp2_with fail
  refine HC3.out.mono ?_
  rintro e w6 ⟨v6, rfl, ho6, ht6⟩
  rw [HL3.out] at ho6
  have ho4 := own_grown ho4' ht6.1 (by omega)
  have ho5' := own_grown ho5 ht6.1 (by omega)
  have HB6 := Lib.hid (grown_to_below HB5.out ht6.1 (HB5.out.size) (by have := HB1.out.size; omega))
  have hz6 := ht6.1.size
  have hd1' := hd1.below ((Below.refl w2.heap.size w5).grown ht6.1 (by omega) (fun k hk => by injection hk with hk; omega))
  have hd2 := ht6.2
  obtain ⟨A4, c4, rfl, _, _, hr4, _⟩ := own_form ho4
  obtain ⟨A5, c5, rfl, _, _, hr5, _⟩ := own_form ho5'
  obtain ⟨A6, c6, rfl, _, _, hr6, _⟩ := own_form ho6
  have hcp := copy_any (l.take n) A4 _ c4 w6 (by rw [HL1.out]; omega) (by rw [HL1.out]; exact hr4)
  rw [HL1.out] at hcp
  have HCP := Lib.hid hcp
  clear HC3 hcp ho4 ho5 ho4' ho5' ho6 hd1 ht6 hr4
  go_wp2_with fail
  refine HCP.out.mono ?_
  rintro e w7 ⟨v7, rfl, ho7, hb7⟩
  have hr5' := hr5.below hb7
  obtain ⟨i0, hi0, hz0, hz1, hz2'⟩ := info_parts u8info
  have hz7 := hb7.size
  go_wp2_with (at_builtin; refine wpList_append_wanted _ rfl (.tmp 76) (.tmp 77) _ rfl w6.heap.size 5 i0 _ 1 1 Try.underlying22 hi0 hz0 hz1 hz2' rfl (by omega) v7 n (bv (l.take n)) rfl ho7 w6.heap.size A5 m c5 (bv ((l.drop n).take m)) rfl hr5' (bv_one _) ?h2 ?h3 ?h4 ?_)
  case h2 => unfold maxLen; omega
  case h3 => omega
  case h4 => exact hz7
  intro v8 w8 ho8 hg8 _
  have hb8 := hb7.grown hg8 hz7 (own_ge ho7)
  rw [← bv_append, HS.out] at ho8
  obtain ⟨A8, c8, rfl, _, _, hr8, _⟩ := own_form ho8
  have hsm := same_any (l.take (n + m)) (l.take (n + m)) A8 A6 _ _ c8 c6 w8 (by rw [HL3.out]; unfold maxLen; omega) (by rw [HL3.out]; unfold maxLen; omega) (by rw [HL3.out]; exact hr8) (by rw [HL3.out]; exact hr6.below hb8)
  rw [HL3.out, show decide (l.take (n + m) = l.take (n + m)) = true from by simp] at hsm
  have HSM := Lib.hid hsm
  have hd18 := hd1'.over hb8
  have hd28 := hd2.over hb8
  have HB8 := Lib.hid (HB6.out.trans (hb8.mono HB6.out.size))
  clear hsm hg8 hr8 hr6 hr5 hr5' ho7 ho8 hb7 hb8 HCP hd1' hd2
  go_wp2_with fail
  refine HSM.out.mono ?_
  rintro e w9 ⟨rfl, hb9⟩
  have hd19 := hd18.over hb9
  have hd29 := hd28.over hb9
  have HB9 := Lib.hid (HB8.out.trans (hb9.mono HB8.out.size))
  clear hb9 HSM hd18 hd28
  go_wp2_with fail
  refine (place_any w9 _ _ g1 l _ hd19).mono ?_
  rintro e w10 ⟨rfl, hb10⟩
  have hd110 := hd19.over hb10
  have hd210 := hd29.over hb10
  have HB10 := Lib.hid (HB9.out.trans (hb10.mono HB9.out.size))
  clear hb10 hd19 hd29
  go_wp2_with fail
  refine (place_any w10 _ _ g2 l _ hd210).mono ?_
  rintro e w11 ⟨rfl, hb11⟩
  have hd111 := hd110.over hb11
  have HB11 := Lib.hid (HB10.out.trans (hb11.mono HB10.out.size))
  clear hb11 hd110 hd210
  have hlf := left_any w11 _ _ g1 l _ hd111
  rw [show ((l.length - (n + m) : Nat) : Int) = (l.length : Int) - (n : Int) - (m : Int) from by omega] at hlf
  have HLF := Lib.hid hlf
  clear hlf
  go_wp2_with fail
  refine HLF.out.mono ?_
  rintro e w12 ⟨rfl, hb12⟩
  go_wp2
  go_ret
  exact ⟨by simp, HB11.out.trans (hb12.mono HB11.out.size)⟩

theorem walk (A : Option Addr) (l : List UInt8) (c : Nat) (n m : Int) (w : World) (_hlc : l.length ≤ c) (_hcm : c ≤ maxLen) (hr : Reads w w.heap.size 1 A l.length (bv l)) (hre : l.length ≤ 140737488351232) (hn : (Lit.int .i64 n).wf = true) (hm : (Lit.int .i64 m).wf = true) :
    Calls Try.prog 10 #[.slice A l.length c, .int .i64 n, .int .i64 m] w fun e w' => e = .returned (.bool true) ∧ Below w.heap.size w w' := by
  by_cases h : n < 0 ∨ m < 0 ∨ (l.length : Int) < n ∨ (l.length : Int) - n < m
  · exact walk_out A l.length c n m w hre (bounds_i64 hn) (bounds_i64 hm) h
  · obtain ⟨a, rfl⟩ := Int.eq_ofNat_of_zero_le (show 0 ≤ n by omega)
    obtain ⟨b, rfl⟩ := Int.eq_ofNat_of_zero_le (show 0 ≤ m by omega)
    exact walk_has A l c a b w hr hre (by omega)

set_option maxRecDepth 100000 in
theorem lifted (os : Os) (started : os.Started) (H : Type) (enc : TypeId × Value → H) :
    ReturnsInHanded {} Try.checked os 10 .any (Rows.lePartsSpec.pre6 enc Try.prog Try.f10 Rows.lePartsRow.domain false) (Rows.lePartsSpec.post enc Try.prog Try.f10 false true false false) := by
  refine returnsInHanded_of_change_sized (C := Try.checked) own started (by kernel_rfl) Try.func10
    (ChangeSpec.witness6 (enc := enc) (C := Try.checked) false ⟨#[], #[.slice none 0 0, .int .i64 0, .int .i64 0], []⟩ 8 (by kernel_rfl) (by kernel_rfl) (by kernel_rfl) (by kernel_rfl)) ?_
  intro W base args ds gs before hval0 hW hcnd hsz0 _
  have hsz : (DataW.weightsEach Try.prog (Try.f10.params.toList ++ Rows.lePartsSpec.plain.varTypes Try.prog) (ds ++ gs)).all (· ≤ reachBytes) = true := hsz0
  have hval : ∀ (j : Nat) t v, Try.f10.params[j]? = some t → args[j]? = some v → Value.okWide Try.prog W .any base t v := hval0
  have hW' := hW
  obtain ⟨p, q, hA0, hV, rfl, hfz, hnd⟩ := hW
  have hA : DataW.TrodAll enc Try.prog W 0 (fun _ => true) true Try.f10.params.toList args.toList ds p := hA0
  rw [Try.params10] at hA hval hsz
  obtain ⟨v0, vs0, d0, ds0, p0, q0, hargs, rfl, rfl, h0, r0⟩ := trodAll_cons hA
  obtain ⟨v1, vs1, d1, ds1, p1, q1, rfl, rfl, rfl, h1, r1⟩ := trodAll_cons r0
  obtain ⟨v2, vs2, d2, ds2, p2, q2, rfl, rfl, rfl, h2, r2⟩ := trodAll_cons r1
  obtain ⟨rfl, rfl, rfl⟩ := trodAll_nil r2
  obtain rfl : args = #[v0, v1, v2] := by cases args; simp_all
  obtain ⟨rfl, rfl⟩ := trodVars_none hV
  have k0 := h0
  have lt0 : ∀ x ∈ p0, x.block < W.heap.size := by obtain ⟨m, hm⟩ := k0; exact DataW.trod_lt m _ _ _ hm
  obtain ⟨A0, l0, c0, rfl, hlc0, hcm0, hr0, hln0⟩ := open_bytes Try.underlying22 Try.underlying5 (by kernel_rfl) (hval 0 22 v0 rfl rfl) h0
  have hre0 := reach_bytes hsz (j := 0) rfl rfl Try.underlying22 bytes_u8 hln0
  obtain ⟨a1, rfl, rfl, rfl, w1⟩ := open_int Try.underlying3 (hval 1 3 v1 rfl rfl) h1
  obtain ⟨a2, rfl, rfl, rfl, w2⟩ := open_int Try.underlying3 (hval 2 3 v2 rfl rfl) h2
  clear hA0 hval0 hsz0
  refine (walk A0 l0 c0 a1 a2 W hlc0 hcm0 hr0 hre0 w1 w2).mono fun e W' ⟨he, bel⟩ => ?_
  subst he
  exact ⟨_, rfl, _, _, _, [], _, [], hW', trodAll_mk1 (shut_bool Try.underlying4 _), (trodAll_cons_mk (Below.trod laidOut (by kernel_rfl) (of_decide_eq_true (by kernel_rfl)) k0 bel lt0) (trodAll_cons_mk (shut_int Try.underlying3 w1) (trodAll_cons_mk (shut_int Try.underlying3 w2) trodAll_mk0))), rfl, bel.frame _, fun h => by cases h⟩

theorem over : Rows.lePartsRow.holds Try.pinned (OpenSpec.ofChange Rows.lePartsSpec) :=
  OpenClaim.holds_of_wide 10 Try.f10 rfl rfl rfl rfl rfl rfl rfl ⟨rfl, rfl, rfl, rfl, rfl⟩ rfl rfl rfl rfl rfl (by kernel_rfl) Try.func10 (by kernel_rfl)
    (of_decide_eq_true (by kernel_rfl)) (by unfold Func.isWrapper; first | (rw [if_pos (by decide +kernel)]; kernel_rfl) | (rw [if_neg (by decide +kernel)]; exact ⟨rfl, rfl⟩))
    (fun os started H enc _ => lifted os started H enc)

/-- The statement. -/
theorem proved : Rows.LePartsSaid := over
#print axioms proved
end Go.Proofs.Ytklpljkjknncgaa.leParts
