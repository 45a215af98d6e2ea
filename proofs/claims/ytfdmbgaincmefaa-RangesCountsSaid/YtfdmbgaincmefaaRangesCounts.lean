/- The statement RangesCounts: of a list of small numbers there are as many as are met one by one. No conditions. -/
import Derived.Test.YtfdmbgaincmefaaRows
import Derived.Test.YtfdmbgaincmefaaOpen
import Derived.Test.YtfdmbgaincmefaaOpenR
import Derived.Test.YtfdmbgaincmefaaRngH
import Derived.WalkKit
import Derived.ProofKit
import Derived.OpenShut
import Derived.ShutString
import Derived.ChangeOld
import Derived.Below
import Derived.SizedLaws
import Derived.JoinedCond
namespace Go.Proofs.Ytfdmbgaincmefaa.rangesCounts
open Go.ChangeShapes Go.WideShapes Go.ChangeAt Go.RowKit
open Go.ChangeMaps (open_string shut_string)
set_option linter.unusedVariables false

theorem own : ownKnob Try.prog.godebug = none := by kernel_rfl
theorem laidOut : laidOutB Try.prog = true := by kernel_rfl

theorem cnt_beyond (p : Int → Prop) (M N : Nat) (h : ∀ n : Nat, M ≤ n → ¬ p n) (hMN : M ≤ N) : cnt p N = cnt p M := by
  induction N with
  | zero => rw [show M = 0 from by omega]
  | succ N ih =>
    rcases Nat.lt_or_ge N M with h1 | h1
    · rw [show M = N + 1 from by omega]
    · rw [cnt, ih h1, if_neg (h N h1), Nat.add_zero]
theorem cnt_hit (l : List Rg) (k : Nat) (h : hasR l k = true) : cnt (memR l) (k + 1) = cnt (memR l) k + 1 := by
  rw [cnt, if_pos ((hasR_iff l k).1 h)]
theorem cnt_miss (l : List Rg) (k : Nat) (h : hasR l k = false) : cnt (memR l) (k + 1) = cnt (memR l) k := by
  rw [cnt, if_neg (fun hh => by rw [(hasR_iff l k).2 hh] at h; cases h), Nat.add_zero]
theorem tot_400 (l : List Rg) (h : ∀ r ∈ l, r.2 ≤ 400) : totN l = cnt (memR l) 400 :=
  cnt_beyond _ 400 _ (fun n hn ⟨_, r, hr, _, h2⟩ => by have := h r hr; omega) (by omega)

set_option maxHeartbeats 800000 in
theorem walk_long (A : Option Addr) (l : List Rg) (c : Nat) (w : World) (h : (decide (60 < l.length) || decide (60 < ([] : List Rg).length)) = true) :
    Calls Try.prog 10 #[.slice A l.length c] w fun e w' => e = .returned (.bool true) ∧ Below w.heap.size w w' := by
  have HL := fun w => Lib.hid (long_any l ([] : List Rg) A none c 0 w)
  rw [h] at HL
  clear h
  go_enter Try.func10, Try.ntmps10
  go_wp2_with fail
  refine (awake_any _).mono ?_
  rintro e w1 ⟨rfl, hb1⟩
  go_wp2_with fail
  refine (HL w1).out.mono ?_
  rintro e w2 ⟨rfl, rfl⟩
  go_wp2_with fail
  refine (awake_any _).mono ?_
  rintro e w2 ⟨rfl, hb2⟩
  go_wp2
  go_ret
  exact ⟨rfl, hb1.trans (hb2.mono hb1.size)⟩

set_option maxRecDepth 100000 in
set_option maxHeartbeats 1600000 in
theorem walk_short (A : Option Addr) (l : List Rg) (c : Nat) (w : World) (ia : RgIn w A l) (ha : l.length ≤ 60) (h : (decide (60 < l.length) || decide (60 < ([] : List Rg).length)) = false) :
    Calls Try.prog 10 #[.slice A l.length c] w fun e w' => e = .returned (.bool true) ∧ Below w.heap.size w w' := by
  have HL := fun w => Lib.hid (long_any l ([] : List Rg) A none c 0 w)
  rw [h] at HL
  clear h
  have IA := Lib.hid ia
  clear ia
  go_enter Try.func10, Try.ntmps10
  go_wp2_with fail
  refine (awake_any _).mono ?_
  rintro e w1 ⟨rfl, hb1⟩
  have U1 := Lib.hid (show Und w w1 from hb1)
  clear hb1
  go_wp2_with fail
  refine (HL w1).out.mono ?_
  rintro e w2 ⟨rfl, rfl⟩
  have I1 := Lib.hid (IA.out.und U1.out)
  go_wp2_with fail
  go_loop [3] (fun i => ∃ k : Nat, k ≤ l.length ∧ i = .int .i64 k ∧ Hid (∀ r ∈ l.take k, r.2 ≤ 400)) (fun i => l.length - (intOf i).toNat)
  case atStart => exact ⟨0, Nat.zero_le _, rfl, fun r hr => by simp at hr⟩
  case round =>
    obtain ⟨k, hk, rfl, HA⟩ := hrel
    by_cases hlt : k < l.length
    · obtain ⟨b, off, rfl, hbB, hc⟩ := I1.out.1.rg (by omega)
      obtain ⟨x1, x2⟩ := hc k hlt
      have hi : (k : Int) < (l.length : Int) := by omega
      have HN : Hid (l[k].2 ≤ 400 → ∀ r ∈ l.take (k + 1), r.2 ≤ 400) := Lib.hid (fun h r hr => by
        rw [List.take_succ_eq_append_getElem hlt] at hr
        rcases List.mem_append.1 hr with hr | hr
        · exact HA.out r hr
        · simp at hr; subst hr; exact h)
      clear hc
      generalize l[k].1 = x at *
      generalize l[k].2 = y at *
      by_cases hy : 400 < y
      · go_wp2
        go_ret
        exact ⟨rfl, U1.out⟩
      · have hy2 : y ≤ 400 := by omega
        have HN2 := Lib.hid (HN.out hy2)
        go_wp2
        go_round
        case rel => exact ⟨k + 1, by omega, by go_num, HN2⟩
        case measure => simp [intOf]; omega
    · obtain rfl : k = l.length := by omega
      have hall := HA.out
      rw [List.take_length] at hall
      have HT := Lib.hid (tot_400 l hall)
      clear hall HA
      go_wp2_with fail
      go_loopw [4, 5] (fun nv i wr => ∃ k m : Nat, k ≤ 400 ∧ m ≤ k ∧ i = .int .i64 k ∧ nv = .int .i64 m ∧ Hid (m = cnt (memR l) k) ∧ Und w1 wr) (fun _ i _ => 400 - (intOf i).toNat)
      case atStart => exact ⟨0, 0, Nat.zero_le _, Nat.le_refl _, rfl, rfl, rfl, und_refl _⟩
      case round =>
        obtain ⟨k, m, hk, hm, rfl, rfl, HM, hu⟩ := hrel
        have HU := Lib.hid hu
        have I2 := Lib.hid (I1.out.und hu)
        clear hu
        by_cases hlt : k < 400
        · rcases hh : hasR l k with _ | _
          · have HC := Lib.hid (cnt_miss l k hh)
            have HH := Lib.hid hh
            clear hh
            go_wp2_with fail
            refine (rHas_any l k A c wr I2.out (by omega) (by omega)).mono ?_
            rw [HH.out]
            rintro e w3 ⟨rfl, hb3⟩
            have HU3 := Lib.hid (und_call HU.out hb3)
            clear hb3
            go_wp2
            go_roundw
            case rel => exact ⟨k + 1, m, by omega, by omega, by go_num, rfl, Lib.hid (by rw [HC.out]; exact HM.out), HU3.out⟩
            case measure => simp [intOf]; omega
          · have HC := Lib.hid (cnt_hit l k hh)
            have HH := Lib.hid hh
            clear hh
            go_wp2_with fail
            refine (rHas_any l k A c wr I2.out (by omega) (by omega)).mono ?_
            rw [HH.out]
            rintro e w3 ⟨rfl, hb3⟩
            have HU3 := Lib.hid (und_call HU.out hb3)
            clear hb3
            go_wp2
            go_roundw
            case rel => exact ⟨k + 1, m + 1, by omega, by omega, by go_num, by go_num, Lib.hid (by rw [HC.out, HM.out]), HU3.out⟩
            case measure => simp [intOf]; omega
        · obtain rfl : k = 400 := by omega
          have HTM := Lib.hid (HT.out.trans HM.out.symm)
          go_wp2_with fail
          refine (rTotal_any l A c wr I2.out).mono ?_
          rw [HTM.out]
          rintro e w3 ⟨rfl, hb3⟩
          have HU3 := Lib.hid (und_call (und_trans U1.out HU.out) hb3)
          clear hb3
          go_wp2
          go_ret
          exact ⟨by simp, HU3.out⟩

theorem walk (A : Option Addr) (l : List Rg) (c : Nat) (w : World) (_hlc : l.length ≤ c) (_hcm : c ≤ maxLen) (hr : Reads w w.heap.size 2 A l.length (rgv l)) (hf : Fits64 l) :
    Calls Try.prog 10 #[.slice A l.length c] w fun e w' => e = .returned (.bool true) ∧ Below w.heap.size w w' := by
  rcases h : (decide (60 < l.length) || decide (60 < ([] : List Rg).length)) with _ | _
  · have h2 : l.length ≤ 60 := by simp at h; omega
    exact walk_short A l c w ⟨hr, by omega, hf⟩ h2 h
  · exact walk_long A l c w h

set_option maxRecDepth 100000 in
theorem lifted (os : Os) (started : os.Started) (H : Type) (enc : TypeId × Value → H) :
    ReturnsInHanded {} Try.checked os 10 .any (Rows.rangesCountsSpec.pre6 enc Try.prog Try.f10 Rows.rangesCountsRow.domain false) (Rows.rangesCountsSpec.post enc Try.prog Try.f10 false true false false) := by
  refine returnsInHanded_of_change_sized (C := Try.checked) own started (by kernel_rfl) Try.func10
    (ChangeSpec.witness6 (enc := enc) (C := Try.checked) false ⟨#[], #[.slice none 0 0], []⟩ 8 (by kernel_rfl) (by kernel_rfl) (by kernel_rfl) (by kernel_rfl)) ?_
  intro W base args ds gs before hval0 hW hcnd hsz0 _
  have hsz : (DataW.weightsEach Try.prog (Try.f10.params.toList ++ Rows.rangesCountsSpec.plain.varTypes Try.prog) (ds ++ gs)).all (· ≤ reachBytes) = true := hsz0
  have hval : ∀ (j : Nat) t v, Try.f10.params[j]? = some t → args[j]? = some v → Value.okWide Try.prog W .any base t v := hval0
  have hW' := hW
  obtain ⟨p, q, hA0, hV, rfl, hfz, hnd⟩ := hW
  have hA : DataW.TrodAll enc Try.prog W 0 (fun _ => true) true Try.f10.params.toList args.toList ds p := hA0
  rw [Try.params10] at hA hval hsz
  obtain ⟨v0, vs0, d0, ds0, p0, q0, hargs, rfl, rfl, h0, r0⟩ := trodAll_cons hA
  obtain ⟨rfl, rfl, rfl⟩ := trodAll_nil r0
  obtain rfl : args = #[v0] := by cases args; simp_all
  obtain ⟨rfl, rfl⟩ := trodVars_none hV
  have k0 := h0
  have lt0 : ∀ x ∈ p0, x.block < W.heap.size := by obtain ⟨m, hm⟩ := k0; exact DataW.trod_lt m _ _ _ hm
  obtain ⟨A0, l0, c0, rfl, hlc0, hcm0, hr0, hf0⟩ := open_ranges Try.underlying22 Try.underlying30 (by kernel_rfl) (by kernel_rfl) Try.underlying3 Try.underlying3 (hval 0 22 v0 rfl rfl) h0
  clear hA0 hval0 hsz0
  refine (walk A0 l0 c0 W hlc0 hcm0 hr0 hf0).mono fun e W' ⟨he, bel⟩ => ?_
  subst he
  exact ⟨_, rfl, _, _, _, [], _, [], hW', trodAll_mk1 (shut_bool Try.underlying4 _), (trodAll_cons_mk (Below.trod laidOut (by kernel_rfl) (of_decide_eq_true (by kernel_rfl)) k0 bel lt0) trodAll_mk0), rfl, bel.frame _, fun h => by cases h⟩

theorem over : Rows.rangesCountsRow.holds Try.pinned (OpenSpec.ofChange Rows.rangesCountsSpec) :=
  OpenClaim.holds_of_wide 10 Try.f10 rfl rfl rfl rfl rfl rfl rfl ⟨rfl, rfl, rfl, rfl, rfl⟩ rfl rfl rfl rfl rfl (by kernel_rfl) Try.func10 (by kernel_rfl)
    (of_decide_eq_true (by kernel_rfl)) (by unfold Func.isWrapper; first | (rw [if_pos (by decide +kernel)]; kernel_rfl) | (rw [if_neg (by decide +kernel)]; exact ⟨rfl, rfl⟩))
    (fun os started H enc _ => lifted os started H enc)

/-- The statement. -/
theorem proved : Rows.RangesCountsSaid := over
#print axioms proved
end Go.Proofs.Ytfdmbgaincmefaa.rangesCounts
