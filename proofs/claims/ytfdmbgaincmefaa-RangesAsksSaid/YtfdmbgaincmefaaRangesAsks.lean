/- The statement RangesAsks: how many numbers a list has, whether one is in it, and where so many fit, are what the document says. No conditions. -/
import Derived.Test.YtfdmbgaincmefaaRows
import Derived.Test.YtfdmbgaincmefaaOpen
import Derived.Test.YtfdmbgaincmefaaOpenR
import Derived.Test.YtfdmbgaincmefaaRngH
import Derived.WalkKit
import Derived.IntWalk
import Derived.ProofKit
import Derived.OpenShut
import Derived.ShutString
import Derived.ChangeOld
import Derived.Below
import Derived.SizedLaws
import Derived.JoinedCond
namespace Go.Proofs.Ytfdmbgaincmefaa.rangesAsks
open Go.ChangeShapes Go.WideShapes Go.ChangeAt Go.RowKit
open Go.ChangeMaps (open_string shut_string)
set_option linter.unusedVariables false

theorem own : ownKnob Try.prog.godebug = none := by kernel_rfl
theorem laidOut : laidOutB Try.prog = true := by kernel_rfl

theorem wrap_back (t x y : Int) (h1 : -9223372036854775808 ≤ t + (y - x)) (h2 : t + (y - x) ≤ 9223372036854775807) : wrap64 (wrap64 (t + y) - x) = t + (y - x) := by
  unfold wrap64
  omega
set_option maxHeartbeats 800000 in
theorem walk_long (A : Option Addr) (l : List Rg) (c : Nat) (n : Int) (w : World) (h : (decide (60 < l.length) || decide (60 < ([] : List Rg).length)) = true) :
    Calls Try.prog 5 #[.slice A l.length c, .int .i64 n] w fun e w' => e = .returned (.bool true) ∧ Below w.heap.size w w' := by
  have HL := fun w => Lib.hid (long_any l ([] : List Rg) A none c 0 w)
  rw [h] at HL
  clear h
  go_enter Try.func5, Try.ntmps5
  go_wp2_with fail
  refine (awake_any _).mono ?_
  rintro e w1 ⟨rfl, hb1⟩
  go_wp2_with fail
  refine (HL w1).out.mono ?_
  rintro e w2 ⟨rfl, rfl⟩
  go_wp2_with fail
  refine (awake_any _).mono ?_
  rintro e w2 ⟨rfl, hb2⟩
  go_wp2
  go_ret
  exact ⟨rfl, hb1.trans (hb2.mono hb1.size)⟩

set_option maxRecDepth 100000 in
set_option maxHeartbeats 1600000 in
theorem walk_short (A : Option Addr) (l : List Rg) (c : Nat) (n : Int) (w : World) (ia : RgIn w A l) (ha : l.length ≤ 60) (hn1 : -9223372036854775808 ≤ n) (hn2 : n ≤ 9223372036854775807) (h : (decide (60 < l.length) || decide (60 < ([] : List Rg).length)) = false) :
    Calls Try.prog 5 #[.slice A l.length c, .int .i64 n] w fun e w' => e = .returned (.bool true) ∧ Below w.heap.size w w' := by
  have HL := fun w => Lib.hid (long_any l ([] : List Rg) A none c 0 w)
  rw [h] at HL
  clear h
  have fa := Lib.hid ia.2.2
  have IA := Lib.hid ia
  clear ia
  go_enter Try.func5, Try.ntmps5
  go_wp2_with fail
  refine (awake_any _).mono ?_
  rintro e w1 ⟨rfl, hb1⟩
  have U1 := Lib.hid (show Und w w1 from hb1)
  clear hb1
  go_wp2_with fail
  refine (HL w1).out.mono ?_
  rintro e w2 ⟨rfl, rfl⟩
  go_wp2_with fail
  refine (refLent_any l A _ c w1 (by omega) (IA.out.und U1.out).1).mono ?_
  rintro e w2 ⟨vx, rfl, hx, hb2⟩
  have U2 := Lib.hid (und_call U1.out hb2)
  have LX := Lib.hid hx
  obtain ⟨gx, cx, ex, ix⟩ := RgIn.of_lent hx (by omega) fa.out
  have IX := Lib.hid ix
  subst ex
  clear hb2 hx U1 ix
  have V2 := Lib.hid (und_refl w2)
  have hcall := refMix_at l [] 0 (Or.inl rfl) A none c 0 w2 (IA.out.und U2.out) (rgin_nil w2)
  have HM := Lib.hid hcall
  clear hcall
  go_wp2_with fail
  refine HM.out.mono ?_
  rintro e w3 ⟨A1, c1, L, rfl, r1, n1, hb3⟩
  have V3 := Lib.hid (und_call V2.out hb3)
  have R1 := Lib.hid (mix_in (Or.inl rfl) (by omega) (by simp) fa.out fits_nil r1 n1)
  have hcan : Canon L (memR l) := n1.congr fun k => wayP_nil l k
  have HFit := Lib.hid (fitOf_ans n hcan)
  have HTot := Lib.hid (totN_canon hcan fa.out)
  have htb := totR_bounds n1.1
  have hle : totR L ≤ 9223372036854775807 := by
    have h1 := totN_le l
    have h2 := totN_canon hcan fa.out
    omega
  have HTB := Lib.hid htb
  have HPos := Lib.hid (right_pos n1.1)
  have HFits := Lib.hid R1.out.2.2
  have hlL : L.length ≤ 1000000 := R1.out.2.1
  clear r1 n1 hb3 V2 HM hcan htb
  go_wp2_with fail
  go_loopw [7, 8, 9, 10] (fun tv av ov i wr => ∃ (k : Nat) (t at' : Int) (ok : Bool), k ≤ L.length ∧ i = .int .i64 k ∧ tv = .int .i64 t ∧ av = .int .i64 at' ∧ ov = .bool ok ∧ Hid (t = totR (L.take k)) ∧ Hid (fitOf n (L.take k) = (at', ok)) ∧ Und w3 wr) (fun _ _ _ i _ => L.length - (intOf i).toNat)
  case atStart => exact ⟨0, 0, 0, false, Nat.zero_le _, rfl, rfl, rfl, rfl, rfl, rfl, und_refl _⟩
  case round =>
    obtain ⟨k, t, at', ok, hk, rfl, rfl, rfl, rfl, HT, HF, hu⟩ := hrel
    have HU := Lib.hid hu
    by_cases hlt : k < L.length
    · obtain ⟨b, off, rfl, hbB, hc⟩ := ((R1.out.und hu).1).rg (by omega)
      obtain ⟨x1, x2⟩ := hc k hlt
      have hi : (k : Int) < (L.length : Int) := by omega
      have k0 : (0 : Int) ≤ (k : Int) := by omega
      have hp := HPos.out _ (List.getElem_mem hlt)
      have hf := HFits.out _ (List.getElem_mem hlt)
      have ht1 := totR_take L k hlt
      have ht2 := (HTB.out (k + 1)).2
      have ht3 := (HTB.out (k + 1)).1
      have hs := fitOf_snoc n (L.take k) L[k]
      rw [← List.take_succ_eq_append_getElem hlt, HF.out] at hs
      have HS := Lib.hid hs
      rw [← HT.out] at ht1
      clear hc hu hs
      generalize L[k].1 = x at *
      generalize L[k].2 = y at *
      have hw := wrap_back t x y (by omega) (by omega)
      have HW := Lib.hid hw
      have HT1 := Lib.hid ht1
      have hxy1 : 0 ≤ y - x := by omega
      have hxy2 : y - x ≤ 9223372036854775807 := by omega
      have hwyx : IntKind.i64.wrap (y - x) = y - x := IntWalk.i64_in _ (by omega)
      clear hw ht1 ht2 ht3
      have hcs : ok = true ∨ ok = false ∧ n < 1 ∨ ok = false ∧ 1 ≤ n ∧ y - x < n ∨ ok = false ∧ 1 ≤ n ∧ n ≤ y - x := by
        rcases ok with _ | _
        · rcases Int.lt_or_le n 1 with h1 | h1
          · exact .inr (.inl ⟨rfl, h1⟩)
          · rcases Int.lt_or_le (y - x) n with h2 | h2
            · exact .inr (.inr (.inl ⟨rfl, h1, h2⟩))
            · exact .inr (.inr (.inr ⟨rfl, h1, h2⟩))
        · exact .inl rfl
      rcases hcs with rfl | ⟨rfl, h1⟩ | ⟨rfl, h1, h2⟩ | ⟨rfl, h1, h2⟩
      · have HS2 : Hid (fitOf n (L.take (k + 1)) = (at', true)) := Lib.hid (by rw [HS.out]; rfl)
        go_wp2_with fail
        go_quiet (fail)
        go_wp2_with fail
        go_quiet (fail)
        go_wp2_with fail
        go_roundw
        case rel => exact ⟨k + 1, t + (y - x), at', true, by omega, by go_num, congrArg (Value.int .i64) HW.out, rfl, rfl, Lib.hid HT1.out.symm, HS2, below_drewN HU.out _⟩
        case measure => simp [intOf]; omega
      · have h1' : ¬ 1 ≤ n := by omega
        have hd : decide (1 ≤ n) = false := decide_eq_false h1'
        have HS2 : Hid (fitOf n (L.take (k + 1)) = (at', false)) := Lib.hid (by
          rw [HS.out, if_neg (by simp), if_neg (fun hh => h1' hh.1)]
          have h0 := (fitOf_none n (L.take k) (by rw [HF.out])).1
          rw [HF.out] at h0
          simp only at h0
          rw [h0])
        go_wp2_with fail
        go_quiet (fail)
        go_wp2_with fail
        go_quiet (fail)
        go_wp2_with fail
        go_roundw
        case rel => exact ⟨k + 1, t + (y - x), at', false, by omega, by go_num, congrArg (Value.int .i64) HW.out, rfl, rfl, Lib.hid HT1.out.symm, HS2, below_drewN HU.out _⟩
        case measure => simp [intOf]; omega
      · have hd : decide (1 ≤ n) = true := decide_eq_true h1
        have h2' : ¬ n ≤ y - x := by omega
        have HS2 : Hid (fitOf n (L.take (k + 1)) = (at', false)) := Lib.hid (by
          rw [HS.out, if_neg (by simp), if_neg (fun hh => h2' hh.2)]
          have h0 := (fitOf_none n (L.take k) (by rw [HF.out])).1
          rw [HF.out] at h0
          simp only at h0
          rw [h0])
        go_wp2_with fail
        go_quiet (fail)
        go_wp2_with fail
        go_quiet (fail)
        go_wp2_with fail
        go_roundw
        case rel => exact ⟨k + 1, t + (y - x), at', false, by omega, by go_num, congrArg (Value.int .i64) HW.out, rfl, rfl, Lib.hid HT1.out.symm, HS2, below_drewN HU.out _⟩
        case measure => simp [intOf]; omega
      · have hd : decide (1 ≤ n) = true := decide_eq_true h1
        have HS2 : Hid (fitOf n (L.take (k + 1)) = (x, true)) := Lib.hid (by
          rw [HS.out, if_neg (by simp), if_pos ⟨h1, h2⟩])
        go_wp2_with fail
        go_quiet (fail)
        go_wp2_with fail
        go_quiet (fail)
        go_wp2_with fail
        go_roundw
        case rel => exact ⟨k + 1, t + (y - x), x, true, by omega, by go_num, congrArg (Value.int .i64) HW.out, rfl, rfl, Lib.hid HT1.out.symm, HS2, below_drewN HU.out _⟩
        case measure => simp [intOf]; omega
    · obtain rfl : k = L.length := by omega
      have ht := HT.out
      have hf := HF.out
      rw [List.take_length] at ht hf
      have HT2 := Lib.hid (HTot.out.trans ht.symm)
      have hfit := HFit.out
      rw [hf] at hfit
      have HFit2 := Lib.hid hfit
      have V4 := Lib.hid (und_trans V3.out HU.out)
      clear ht hf hfit HT HF HFit hu HTot
      go_wp2_with fail
      refine (rFit_any l n _ cx wr (IX.out.und V4.out) hn1 hn2).mono ?_
      rintro e w5 ⟨a2, ok2, rfl, hans, hb5⟩
      obtain ⟨rfl, rfl⟩ := hans.unique HFit2.out
      have V5 := Lib.hid (und_call V4.out hb5)
      clear hans hb5 HFit2
      go_wp2_with fail
      refine (rTotal_any l _ cx w5 (IX.out.und V5.out)).mono ?_
      rw [HT2.out]
      rintro e w6 ⟨rfl, hb6⟩
      have V6 := Lib.hid (und_call V5.out hb6)
      have htt : (t == t) = true := by simp
      clear hb6
      go_wp2_with fail
      refine (rHas_any l n _ cx w6 (IX.out.und V6.out) hn1 hn2).mono ?_
      rintro e w7 ⟨rfl, hb7⟩
      have V7 := Lib.hid (und_call V6.out hb7)
      clear hb7
      go_wp2_with fail
      refine (refHas_any l n A _ c w7 (by omega) ((IA.out.und U2.out).und V7.out).1).mono ?_
      rintro e w8 ⟨rfl, rfl⟩
      generalize hasR l n = hh at *
      have hhh : (hh == hh) = true := by simp
      have hok : (ok2 == ok2) = true := by simp
      have haa : (a2 == a2) = true := by simp
      go_wp2_with fail
      refine (refKept_any l _ A _ c _ w7 (by omega) (LX.out.below V7.out) ((IA.out.und U2.out).und V7.out).1).mono ?_
      rintro e w9 ⟨rfl, hb9⟩
      have U9 := Lib.hid (und_call (und_trans U2.out V7.out) hb9)
      clear hb9
      go_wp2
      go_ret
      exact ⟨rfl, U9.out⟩

theorem walk (A : Option Addr) (l : List Rg) (c : Nat) (n : Int) (w : World) (_hlc : l.length ≤ c) (_hcm : c ≤ maxLen) (hr : Reads w w.heap.size 2 A l.length (rgv l)) (hf : Fits64 l) (hn : (Lit.int .i64 n).wf = true) :
    Calls Try.prog 5 #[.slice A l.length c, .int .i64 n] w fun e w' => e = .returned (.bool true) ∧ Below w.heap.size w w' := by
  have hb := bounds_i64 hn
  rcases h : (decide (60 < l.length) || decide (60 < ([] : List Rg).length)) with _ | _
  · have h2 : l.length ≤ 60 := by simp at h; omega
    exact walk_short A l c n w ⟨hr, by omega, hf⟩ h2 hb.1 hb.2 h
  · exact walk_long A l c n w h

set_option maxRecDepth 100000 in
theorem lifted (os : Os) (started : os.Started) (H : Type) (enc : TypeId × Value → H) :
    ReturnsInHanded {} Try.checked os 5 .any (Rows.rangesAsksSpec.pre6 enc Try.prog Try.f5 Rows.rangesAsksRow.domain false) (Rows.rangesAsksSpec.post enc Try.prog Try.f5 false true false false) := by
  refine returnsInHanded_of_change_sized (C := Try.checked) own started (by kernel_rfl) Try.func5
    (ChangeSpec.witness6 (enc := enc) (C := Try.checked) false ⟨#[], #[.slice none 0 0, .int .i64 0], []⟩ 8 (by kernel_rfl) (by kernel_rfl) (by kernel_rfl) (by kernel_rfl)) ?_
  intro W base args ds gs before hval0 hW hcnd hsz0 _
  have hsz : (DataW.weightsEach Try.prog (Try.f5.params.toList ++ Rows.rangesAsksSpec.plain.varTypes Try.prog) (ds ++ gs)).all (· ≤ reachBytes) = true := hsz0
  have hval : ∀ (j : Nat) t v, Try.f5.params[j]? = some t → args[j]? = some v → Value.okWide Try.prog W .any base t v := hval0
  have hW' := hW
  obtain ⟨p, q, hA0, hV, rfl, hfz, hnd⟩ := hW
  have hA : DataW.TrodAll enc Try.prog W 0 (fun _ => true) true Try.f5.params.toList args.toList ds p := hA0
  rw [Try.params5] at hA hval hsz
  obtain ⟨v0, vs0, d0, ds0, p0, q0, hargs, rfl, rfl, h0, r0⟩ := trodAll_cons hA
  obtain ⟨v1, vs1, d1, ds1, p1, q1, rfl, rfl, rfl, h1, r1⟩ := trodAll_cons r0
  obtain ⟨rfl, rfl, rfl⟩ := trodAll_nil r1
  obtain rfl : args = #[v0, v1] := by cases args; simp_all
  obtain ⟨rfl, rfl⟩ := trodVars_none hV
  have k0 := h0
  have lt0 : ∀ x ∈ p0, x.block < W.heap.size := by obtain ⟨m, hm⟩ := k0; exact DataW.trod_lt m _ _ _ hm
  obtain ⟨A0, l0, c0, rfl, hlc0, hcm0, hr0, hf0⟩ := open_ranges Try.underlying22 Try.underlying30 (by kernel_rfl) (by kernel_rfl) Try.underlying3 Try.underlying3 (hval 0 22 v0 rfl rfl) h0
  obtain ⟨a1, rfl, rfl, rfl, w1⟩ := open_int Try.underlying3 (hval 1 3 v1 rfl rfl) h1
  clear hA0 hval0 hsz0
  refine (walk A0 l0 c0 a1 W hlc0 hcm0 hr0 hf0 w1).mono fun e W' ⟨he, bel⟩ => ?_
  subst he
  exact ⟨_, rfl, _, _, _, [], _, [], hW', trodAll_mk1 (shut_bool Try.underlying4 _), (trodAll_cons_mk (Below.trod laidOut (by kernel_rfl) (of_decide_eq_true (by kernel_rfl)) k0 bel lt0) (trodAll_cons_mk (shut_int Try.underlying3 w1) trodAll_mk0)), rfl, bel.frame _, fun h => by cases h⟩

theorem over : Rows.rangesAsksRow.holds Try.pinned (OpenSpec.ofChange Rows.rangesAsksSpec) :=
  OpenClaim.holds_of_wide 5 Try.f5 rfl rfl rfl rfl rfl rfl rfl ⟨rfl, rfl, rfl, rfl, rfl⟩ rfl rfl rfl rfl rfl (by kernel_rfl) Try.func5 (by kernel_rfl)
    (of_decide_eq_true (by kernel_rfl)) (by unfold Func.isWrapper; first | (rw [if_pos (by decide +kernel)]; kernel_rfl) | (rw [if_neg (by decide +kernel)]; exact ⟨rfl, rfl⟩))
    (fun os started H enc _ => lifted os started H enc)

/-- The statement. -/
theorem proved : Rows.RangesAsksSaid := over
#print axioms proved
end Go.Proofs.Ytfdmbgaincmefaa.rangesAsks
