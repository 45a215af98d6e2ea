/- The statement RangesFits: where so many numbers fit all of them are in the list, and from no lesser number on. No conditions. -/
import Derived.Test.YtfdmbgaincmefaaRows
import Derived.Test.YtfdmbgaincmefaaOpen
import Derived.Test.YtfdmbgaincmefaaOpenR
import Derived.Test.YtfdmbgaincmefaaRngH
import Derived.WalkKit
import Derived.IntWalk
import Derived.ProofKit
import Derived.OpenShut
import Derived.ShutString
import Derived.ChangeOld
import Derived.Below
import Derived.SizedLaws
import Derived.JoinedCond
namespace Go.Proofs.Ytfdmbgaincmefaa.rangesFits
open Go.ChangeShapes Go.WideShapes Go.ChangeAt Go.RowKit
open Go.ChangeMaps (open_string shut_string)
set_option linter.unusedVariables false

theorem own : ownKnob Try.prog.godebug = none := by kernel_rfl
theorem laidOut : laidOutB Try.prog = true := by kernel_rfl

theorem none_fit {l : List Rg} {n : Int} (hn : 1 ≤ n) (h : n < 1 ∨ ∀ m, ¬ FitsAt l n m) : ∀ r ∈ l, 0 ≤ r.1 → r.1 < r.2 → r.2 - r.1 < n := by
  intro r hr h0 h1
  rcases Int.lt_or_le (r.2 - r.1) n with h2 | h2
  · exact h2
  · exfalso
    rcases h with h | h
    · omega
    · exact h r.1 fun k hk1 hk2 => ⟨by omega, r, hr, hk1, by omega⟩
theorem first_at {l : List Rg} {n a : Int} (hn : 1 ≤ n) (hf : FitsAt l n a) (hl : ∀ m, m < a → ¬ FitsAt l n m) : 0 ≤ a ∧ ¬ memR l (a - 1) := by
  refine ⟨(hf a (Int.le_refl _) (by omega)).1, fun h => hl (a - 1) (by omega) fun k hk1 hk2 => ?_⟩
  rcases Int.lt_or_le k a with h1 | h1
  · rwa [show k = a - 1 from by omega]
  · exact hf k h1 (by omega)
theorem below_none {l L : List Rg} {n a lower : Int} {less : Bool} (hn : 1 ≤ n) (hc : Canon L (wayP l [(0, a)] 1)) (hl : ∀ m, m < a → ¬ FitsAt l n m) (h : FitAns L n lower less) : lower = 0 ∧ less = false := by
  rcases h with ⟨_, _, h3, _⟩ | ⟨h1, h2, _⟩
  · exfalso
    have hm := (mem1 hc lower).1 (h3 lower (Int.le_refl _) (by omega))
    have hlt : lower < a := by
      obtain ⟨_, r, hr, _, h5⟩ := hm.2
      simp at hr
      subst hr
      exact h5
    exact hl lower hlt fun k hk1 hk2 => ((mem1 hc k).1 (h3 k hk1 hk2)).1
  · exact ⟨h2, h1⟩

set_option maxHeartbeats 800000 in
theorem walk_long (A : Option Addr) (l : List Rg) (c : Nat) (n : Int) (w : World) (h : (decide (60 < l.length) || decide (60 < ([] : List Rg).length)) = true) :
    Calls Try.prog 8 #[.slice A l.length c, .int .i64 n] w fun e w' => e = .returned (.bool true) ∧ Below w.heap.size w w' := by
  have HL := fun w => Lib.hid (long_any l ([] : List Rg) A none c 0 w)
  rw [h] at HL
  clear h
  go_enter Try.func8, Try.ntmps8
  go_wp2_with fail
  refine (awake_any _).mono ?_
  rintro e w1 ⟨rfl, hb1⟩
  go_wp2_with fail
  refine (HL w1).out.mono ?_
  rintro e w2 ⟨rfl, rfl⟩
  go_wp2_with fail
  refine (awake_any _).mono ?_
  rintro e w2 ⟨rfl, hb2⟩
  go_wp2
  go_ret
  exact ⟨rfl, hb1.trans (hb2.mono hb1.size)⟩

set_option maxHeartbeats 800000 in
theorem walk_far (A : Option Addr) (l : List Rg) (c : Nat) (n : Int) (w : World) (h : (decide (60 < l.length) || decide (60 < ([] : List Rg).length)) = false) (hn : n < 1 ∨ 1 ≤ n ∧ 200 < n) :
    Calls Try.prog 8 #[.slice A l.length c, .int .i64 n] w fun e w' => e = .returned (.bool true) ∧ Below w.heap.size w w' := by
  have HL := fun w => Lib.hid (long_any l ([] : List Rg) A none c 0 w)
  rw [h] at HL
  clear h
  rcases hn with hn | ⟨hn, hn2⟩
  all_goals
    go_enter Try.func8, Try.ntmps8
    go_wp2_with fail
    refine (awake_any _).mono ?_
    rintro e w1 ⟨rfl, hb1⟩
    go_wp2_with fail
    refine (HL w1).out.mono ?_
    rintro e w2 ⟨rfl, rfl⟩
    go_wp2_with fail
    refine (awake_any _).mono ?_
    rintro e w2 ⟨rfl, hb2⟩
    go_wp2
    go_ret
    exact ⟨rfl, hb1.trans (hb2.mono hb1.size)⟩

set_option maxRecDepth 100000 in
set_option maxHeartbeats 1600000 in
theorem walk_short (A : Option Addr) (l : List Rg) (c : Nat) (n : Int) (w : World) (ia : RgIn w A l) (ha : l.length ≤ 60) (hn1 : 1 ≤ n) (hn2 : n ≤ 200) (h : (decide (60 < l.length) || decide (60 < ([] : List Rg).length)) = false) :
    Calls Try.prog 8 #[.slice A l.length c, .int .i64 n] w fun e w' => e = .returned (.bool true) ∧ Below w.heap.size w w' := by
  have HL := fun w => Lib.hid (long_any l ([] : List Rg) A none c 0 w)
  rw [h] at HL
  clear h
  have fa := Lib.hid ia.2.2
  have IA := Lib.hid ia
  clear ia
  go_enter Try.func8, Try.ntmps8
  go_wp2_with fail
  refine (awake_any _).mono ?_
  rintro e w1 ⟨rfl, hb1⟩
  have U1 := Lib.hid (show Und w w1 from hb1)
  clear hb1
  go_wp2_with fail
  refine (HL w1).out.mono ?_
  rintro e w2 ⟨rfl, rfl⟩
  have I1 := Lib.hid (IA.out.und U1.out)
  clear IA
  go_wp2_with fail
  refine (rFit_any l n A c w1 I1.out (by omega) (by omega)).mono ?_
  rintro e w2 ⟨at', ok, rfl, hans, hb2⟩
  have I2 := Lib.hid (I1.out.below hb2)
  have U2 := Lib.hid (und_call U1.out hb2)
  clear I1 hb2 U1
  rcases hans with ⟨rfl, _, hfit, hleast⟩ | ⟨rfl, rfl, hno⟩
  · have hfa := first_at hn1 hfit hleast
    have ha0 := hfa.1
    have HPrev := Lib.hid (show hasR l (at' - 1) = false from (bnot_iff (hasR_iff l (at' - 1))).2 hfa.2)
    have HLeast := Lib.hid hleast
    have hmax := mem_lt fa.out (hfit (at' + n - 1) (by omega) (by omega))
    have HFit := Lib.hid (fun k (h1 : at' ≤ k) (h2 : k < at' + n) => (hasR_iff l k).2 (hfit k h1 h2))
    clear hfa hfit hleast
    go_wp2_with fail
    go_loopw [8] (fun i wr => ∃ k : Nat, (k : Int) ≤ n ∧ i = .int .i64 k ∧ Und w2 wr) (fun i _ => n.toNat - (intOf i).toNat)
    case atStart => exact ⟨0, by omega, rfl, und_refl _⟩
    case round =>
      obtain ⟨k, hk, rfl, hu⟩ := hrel
      have HU := Lib.hid hu
      have I3 := Lib.hid (I2.out.und hu)
      clear hu
      by_cases hlt : (k : Int) < n
      · have HH := Lib.hid (HFit.out (at' + k) (by omega) (by omega))
        go_wp2_with fail
        refine (rHas_any l (at' + k) A c wr I3.out (by omega) (by omega)).mono ?_
        rw [HH.out]
        rintro e w3 ⟨rfl, hb3⟩
        have HU3 := Lib.hid (und_call HU.out hb3)
        clear hb3
        go_wp2
        go_roundw
        case rel => exact ⟨k + 1, by omega, by go_num, HU3.out⟩
        case measure => simp [intOf]; omega
      · have U3 := Lib.hid (und_trans U2.out HU.out)
        have hfl : Fits64 [((0 : Int), at')] := fun r hr => by simp at hr; subst hr; exact ⟨by omega, by omega, by show (-9223372036854775808 : Int) ≤ at'; omega, by show at' ≤ (9223372036854775807 : Int); omega⟩
        have IB := Lib.hid (rgin_new wr 30 [(0, at')] wr.heap.size rfl (by simp) hfl)
        have I4 := Lib.hid (I3.out.alloc (.cells #[.int .i64 0, .int .i64 at'] 30))
        have U4 := Lib.hid (und_alloc U3.out (.cells #[.int .i64 0, .int .i64 at'] 30))
        have HCall := Lib.hid (rBoth_any l [(0, at')] A (some ⟨wr.heap.size, 0, none⟩) c 1 _ I4.out IB.out)
        have HFl := Lib.hid hfl
        clear hfl
        go_wp2_with fail
        refine HCall.out.mono ?_
        rintro e w4 ⟨A4, c4, L4, rfl, r4, n4, hb4⟩
        have I5 := Lib.hid (mix_in (Or.inr (Or.inl rfl)) (by omega) (by simp) fa.out HFl.out r4 n4)
        have I6 := Lib.hid (I4.out.below hb4)
        have U5 := Lib.hid (und_call U4.out hb4)
        have N4 := Lib.hid n4
        clear r4 n4 hb4 HCall
        go_wp2_with fail
        refine (rFit_any L4 n A4 c4 w4 I5.out (by omega) (by omega)).mono ?_
        rintro e w5 ⟨lower, less, rfl, hans, hb5⟩
        obtain ⟨rfl, rfl⟩ := below_none hn1 N4.out HLeast.out hans
        have I7 := Lib.hid (I6.out.below hb5)
        have U6 := Lib.hid (und_call U5.out hb5)
        clear hans hb5
        go_wp2_with fail
        refine (rHas_any l (at' - 1) A c w5 I7.out (by omega) (by omega)).mono ?_
        rw [HPrev.out]
        rintro e w6 ⟨rfl, hb6⟩
        have U7 := Lib.hid (und_call U6.out hb6)
        clear hb6
        go_wp2
        go_ret
        exact ⟨rfl, U7.out⟩
  · have HNo := Lib.hid (none_fit hn1 hno)
    clear hno
    go_wp2_with fail
    go_loopw [7] (fun i wr => ∃ k : Nat, k ≤ l.length ∧ i = .int .i64 k ∧ Und w2 wr) (fun i _ => l.length - (intOf i).toNat)
    case atStart => exact ⟨0, Nat.zero_le _, rfl, und_refl _⟩
    case round =>
      obtain ⟨k, hk, rfl, hu⟩ := hrel
      have HU := Lib.hid hu
      have I3 := Lib.hid (I2.out.und hu)
      clear hu
      by_cases hlt : k < l.length
      · obtain ⟨b, off, rfl, hbB, hc⟩ := I3.out.1.rg (by omega)
        obtain ⟨x1, x2⟩ := hc k hlt
        have hi : (k : Int) < (l.length : Int) := by omega
        have k0 : (0 : Int) ≤ (k : Int) := by omega
        have hf := fa.out _ (List.getElem_mem hlt)
        have HN := Lib.hid (HNo.out _ (List.getElem_mem hlt))
        clear hc
        generalize l[k].1 = x at *
        generalize l[k].2 = y at *
        have hcs : x < 0 ∨ 0 ≤ x ∧ y ≤ x ∨ 0 ≤ x ∧ x < y := by omega
        rcases hcs with h1 | ⟨h1, h2⟩ | ⟨h1, h2⟩
        · have hd : decide (0 ≤ x) = false := decide_eq_false (by omega)
          go_wp2_with fail
          go_quiet (fail)
          go_wp2_with fail
          go_roundw
          case rel => exact ⟨k + 1, by omega, by go_num, below_drewN HU.out _⟩
          case measure => simp [intOf]; omega
        · have hd : decide (0 ≤ x) = true := decide_eq_true h1
          have hd2 : decide (x < y) = false := decide_eq_false (by omega)
          go_wp2_with fail
          go_quiet (fail)
          go_wp2_with fail
          go_roundw
          case rel => exact ⟨k + 1, by omega, by go_num, below_drewN HU.out _⟩
          case measure => simp [intOf]; omega
        · have hd : decide (0 ≤ x) = true := decide_eq_true h1
          have hd2 : decide (x < y) = true := decide_eq_true h2
          have h3 := HN.out h1 h2
          have hwyx : IntKind.i64.wrap (y - x) = y - x := IntWalk.i64_in _ (by omega)
          have hd3 : decide (n ≤ y - x) = false := decide_eq_false (by omega)
          go_wp2_with fail
          go_quiet (fail)
          go_wp2_with fail
          go_roundw
          case rel => exact ⟨k + 1, by omega, by go_num, below_drewN HU.out _⟩
          case measure => simp [intOf]; omega
      · obtain rfl : k = l.length := by omega
        go_wp2
        go_ret
        exact ⟨rfl, und_trans U2.out HU.out⟩

theorem walk (A : Option Addr) (l : List Rg) (c : Nat) (n : Int) (w : World) (_hlc : l.length ≤ c) (_hcm : c ≤ maxLen) (hr : Reads w w.heap.size 2 A l.length (rgv l)) (hf : Fits64 l) (_hn : (Lit.int .i64 n).wf = true) :
    Calls Try.prog 8 #[.slice A l.length c, .int .i64 n] w fun e w' => e = .returned (.bool true) ∧ Below w.heap.size w w' := by
  rcases h : (decide (60 < l.length) || decide (60 < ([] : List Rg).length)) with _ | _
  · have h2 : l.length ≤ 60 := by simp at h; omega
    by_cases hnn : 1 ≤ n ∧ n ≤ 200
    · exact walk_short A l c n w ⟨hr, by omega, hf⟩ h2 hnn.1 hnn.2 h
    · exact walk_far A l c n w h (by omega)
  · exact walk_long A l c n w h

set_option maxRecDepth 100000 in
theorem lifted (os : Os) (started : os.Started) (H : Type) (enc : TypeId × Value → H) :
    ReturnsInHanded {} Try.checked os 8 .any (Rows.rangesFitsSpec.pre6 enc Try.prog Try.f8 Rows.rangesFitsRow.domain false) (Rows.rangesFitsSpec.post enc Try.prog Try.f8 false true false false) := by
  refine returnsInHanded_of_change_sized (C := Try.checked) own started (by kernel_rfl) Try.func8
    (ChangeSpec.witness6 (enc := enc) (C := Try.checked) false ⟨#[], #[.slice none 0 0, .int .i64 0], []⟩ 8 (by kernel_rfl) (by kernel_rfl) (by kernel_rfl) (by kernel_rfl)) ?_
  intro W base args ds gs before hval0 hW hcnd hsz0 _
  have hsz : (DataW.weightsEach Try.prog (Try.f8.params.toList ++ Rows.rangesFitsSpec.plain.varTypes Try.prog) (ds ++ gs)).all (· ≤ reachBytes) = true := hsz0
  have hval : ∀ (j : Nat) t v, Try.f8.params[j]? = some t → args[j]? = some v → Value.okWide Try.prog W .any base t v := hval0
  have hW' := hW
  obtain ⟨p, q, hA0, hV, rfl, hfz, hnd⟩ := hW
  have hA : DataW.TrodAll enc Try.prog W 0 (fun _ => true) true Try.f8.params.toList args.toList ds p := hA0
  rw [Try.params8] at hA hval hsz
  obtain ⟨v0, vs0, d0, ds0, p0, q0, hargs, rfl, rfl, h0, r0⟩ := trodAll_cons hA
  obtain ⟨v1, vs1, d1, ds1, p1, q1, rfl, rfl, rfl, h1, r1⟩ := trodAll_cons r0
  obtain ⟨rfl, rfl, rfl⟩ := trodAll_nil r1
  obtain rfl : args = #[v0, v1] := by cases args; simp_all
  obtain ⟨rfl, rfl⟩ := trodVars_none hV
  have k0 := h0
  have lt0 : ∀ x ∈ p0, x.block < W.heap.size := by obtain ⟨m, hm⟩ := k0; exact DataW.trod_lt m _ _ _ hm
  obtain ⟨A0, l0, c0, rfl, hlc0, hcm0, hr0, hf0⟩ := open_ranges Try.underlying22 Try.underlying30 (by kernel_rfl) (by kernel_rfl) Try.underlying3 Try.underlying3 (hval 0 22 v0 rfl rfl) h0
  obtain ⟨a1, rfl, rfl, rfl, w1⟩ := open_int Try.underlying3 (hval 1 3 v1 rfl rfl) h1
  clear hA0 hval0 hsz0
  refine (walk A0 l0 c0 a1 W hlc0 hcm0 hr0 hf0 w1).mono fun e W' ⟨he, bel⟩ => ?_
  subst he
  exact ⟨_, rfl, _, _, _, [], _, [], hW', trodAll_mk1 (shut_bool Try.underlying4 _), (trodAll_cons_mk (Below.trod laidOut (by kernel_rfl) (of_decide_eq_true (by kernel_rfl)) k0 bel lt0) (trodAll_cons_mk (shut_int Try.underlying3 w1) trodAll_mk0)), rfl, bel.frame _, fun h => by cases h⟩

theorem over : Rows.rangesFitsRow.holds Try.pinned (OpenSpec.ofChange Rows.rangesFitsSpec) :=
  OpenClaim.holds_of_wide 8 Try.f8 rfl rfl rfl rfl rfl rfl rfl ⟨rfl, rfl, rfl, rfl, rfl⟩ rfl rfl rfl rfl rfl (by kernel_rfl) Try.func8 (by kernel_rfl)
    (of_decide_eq_true (by kernel_rfl)) (by unfold Func.isWrapper; first | (rw [if_pos (by decide +kernel)]; kernel_rfl) | (rw [if_neg (by decide +kernel)]; exact ⟨rfl, rfl⟩))
    (fun os started H enc _ => lifted os started H enc)

/-- The statement. -/
theorem proved : Rows.RangesFitsSaid := over
#print axioms proved
end Go.Proofs.Ytfdmbgaincmefaa.rangesFits
