/- The statement RangesMoved: a list whose ranges are all moved up by one number has the right list that is moved so. No conditions. -/
import Derived.Test.YtfdmbgaincmefaaRows
import Derived.Test.YtfdmbgaincmefaaOpen
import Derived.Test.YtfdmbgaincmefaaOpenR
import Derived.Test.YtfdmbgaincmefaaRngH
import Derived.WalkKit
import Derived.Deep.DeepCutAuto
import Derived.IntWalk
import Derived.ProofKit
import Derived.OpenShut
import Derived.ShutString
import Derived.ChangeOld
import Derived.Below
import Derived.SizedLaws
import Derived.JoinedCond
namespace Go.Proofs.Ytfdmbgaincmefaa.rangesMoved
open Go.ChangeShapes Go.WideShapes Go.ChangeAt Go.RowKit
open Go.ChangeMaps (open_string shut_string)
set_option linter.unusedVariables false

theorem own : ownKnob Try.prog.godebug = none := by kernel_rfl
theorem laidOut : laidOutB Try.prog = true := by kernel_rfl

theorem max_ite (x : Int) : (if x < 0 then 0 else x) = max x 0 := by
  split <;> omega
theorem two_int (x y : Int) : ∀ u ∈ [Value.int .i64 x, Value.int .i64 y], u.oneCell' = true := by intro u hu; simp at hu; rcases hu with rfl | rfl <;> rfl
theorem rg_63 {n : Nat} (h : n ≤ 1000) : n + 1 ≤ maxLen := by unfold maxLen; omega
theorem rg_47 {n : Nat} (h : n ≤ 1000) : (n + 1) * 16 ≤ 140737488355328 := by omega
theorem und_size {B : Nat} {w : World} (h : B ≤ w.heap.size) (o : Obj) : B ≤ (w.alloc o).heap.size := by simp; omega
/-- A range moved up, as the law does it. -/
def mvR (d : Int) (r : Rg) : Rg := (min (max r.1 0) 1125899906842624 + d, max r.2 0 + d)
theorem mvR_mem (l : List Rg) (d : Int) (hd : 0 ≤ d) (h : ∀ r ∈ l, max r.2 0 ≤ 1125899906842624) (n : Int) : memR (l.map (mvR d)) n ↔ memR l (n - d) := by
  constructor
  · rintro ⟨h0, r, hr, h1, h2⟩
    obtain ⟨q, hq, rfl⟩ := List.mem_map.1 hr
    have := h q hq
    unfold mvR at h1 h2
    simp only at h1 h2
    exact ⟨by omega, q, hq, by omega, by omega⟩
  · rintro ⟨h0, q, hq, h1, h2⟩
    have := h q hq
    exact ⟨by omega, mvR d q, List.mem_map.2 ⟨q, hq, rfl⟩, by unfold mvR; simp only; omega, by unfold mvR; simp only; omega⟩
/-- Both ends moved up. -/
def upR (d : Int) (r : Rg) : Rg := (r.1 + d, r.2 + d)
theorem upR_right (d : Int) : ∀ (l : List Rg) (b : Int), rightFrom b l → rightFrom (b + d) (l.map (upR d)) := by
  intro l
  induction l with
  | nil => intro b _; trivial
  | cons r l ih =>
    intro b h
    refine ⟨?_, ?_, ih r.2 h.2.2⟩
    · have := h.1; show b + d < r.1 + d; omega
    · have := h.2.1; show r.1 + d < r.2 + d; omega
theorem upR_mem (l : List Rg) (d : Int) (hd : 0 ≤ d) (hp : ∀ r ∈ l, 0 ≤ r.1) (n : Int) : memR (l.map (upR d)) n ↔ memR l (n - d) := by
  constructor
  · rintro ⟨h0, r, hr, h1, h2⟩
    obtain ⟨q, hq, rfl⟩ := List.mem_map.1 hr
    have := hp q hq
    unfold upR at h1 h2
    simp only at h1 h2
    exact ⟨by omega, q, hq, by omega, by omega⟩
  · rintro ⟨h0, q, hq, h1, h2⟩
    exact ⟨by omega, upR d q, List.mem_map.2 ⟨q, hq, rfl⟩, by unfold upR; simp only; omega, by unfold upR; simp only; omega⟩
theorem moved_canon {l a b : List Rg} (d : Int) (hd : 0 ≤ d) (h : ∀ r ∈ l, max r.2 0 ≤ 1125899906842624) (ha : Canon a (memR l)) (hb : Canon b (memR (l.map (mvR d)))) : b = a.map (upR d) := by
  refine right_unique hb.1 (rightFrom_weaken (upR_right d a (-1) ha.1) (by omega)) fun n => ?_
  rw [hb.2, mvR_mem l d hd h, upR_mem a d hd (fun r hr => (right_pos ha.1 r hr).1), ha.2]
theorem upR_tot (d : Int) (l : List Rg) : totR (l.map (upR d)) = totR l := by
  unfold totR
  rw [List.map_map]
  congr 1
  apply List.map_congr_left
  intro r _
  show r.2 + d - (r.1 + d) = r.2 - r.1
  omega
theorem mvR_fits (l : List Rg) (d : Int) (hd : 0 ≤ d) (hd2 : d ≤ 1099511627776) (h : ∀ r ∈ l, max r.2 0 ≤ 1125899906842624) : Fits64 (l.map (mvR d)) := by
  intro r hr
  obtain ⟨q, hq, rfl⟩ := List.mem_map.1 hr
  have := h q hq
  unfold mvR
  simp only
  omega

set_option maxHeartbeats 800000 in
theorem walk_long (A : Option Addr) (l : List Rg) (c : Nat) (d : Int) (w : World) (h : (decide (60 < l.length) || decide (60 < ([] : List Rg).length)) = true) :
    Calls Try.prog 9 #[.slice A l.length c, .int .i64 d] w fun e w' => e = .returned (.bool true) ∧ Below w.heap.size w w' := by
  have HL := fun w => Lib.hid (long_any l ([] : List Rg) A none c 0 w)
  rw [h] at HL
  clear h
  go_enter Try.func9, Try.ntmps9
  go_wp2_with fail
  refine (awake_any _).mono ?_
  rintro e w1 ⟨rfl, hb1⟩
  go_wp2_with fail
  refine (HL w1).out.mono ?_
  rintro e w2 ⟨rfl, rfl⟩
  go_wp2_with fail
  refine (awake_any _).mono ?_
  rintro e w2 ⟨rfl, hb2⟩
  go_wp2
  go_ret
  exact ⟨rfl, hb1.trans (hb2.mono hb1.size)⟩

set_option maxHeartbeats 800000 in
theorem walk_far (A : Option Addr) (l : List Rg) (c : Nat) (n : Int) (w : World) (h : (decide (60 < l.length) || decide (60 < ([] : List Rg).length)) = false) (hn : n < 0 ∨ 0 ≤ n ∧ 1099511627776 < n) :
    Calls Try.prog 9 #[.slice A l.length c, .int .i64 n] w fun e w' => e = .returned (.bool true) ∧ Below w.heap.size w w' := by
  have HL := fun w => Lib.hid (long_any l ([] : List Rg) A none c 0 w)
  rw [h] at HL
  clear h
  rcases hn with hn | ⟨hn, hn2⟩
  all_goals
    go_enter Try.func9, Try.ntmps9
    go_wp2_with fail
    refine (awake_any _).mono ?_
    rintro e w1 ⟨rfl, hb1⟩
    go_wp2_with fail
    refine (HL w1).out.mono ?_
    rintro e w2 ⟨rfl, rfl⟩
    go_wp2_with fail
    refine (awake_any _).mono ?_
    rintro e w2 ⟨rfl, hb2⟩
    go_wp2
    go_ret
    exact ⟨rfl, hb1.trans (hb2.mono hb1.size)⟩

set_option maxRecDepth 100000 in
set_option maxHeartbeats 1600000 in
theorem walk_short (A : Option Addr) (l : List Rg) (c : Nat) (d : Int) (w : World) (ia : RgIn w A l) (ha : l.length ≤ 60) (hd1 : 0 ≤ d) (hd2 : d ≤ 1099511627776) (h : (decide (60 < l.length) || decide (60 < ([] : List Rg).length)) = false) :
    Calls Try.prog 9 #[.slice A l.length c, .int .i64 d] w fun e w' => e = .returned (.bool true) ∧ Below w.heap.size w w' := by
  have HL := fun w => Lib.hid (long_any l ([] : List Rg) A none c 0 w)
  rw [h] at HL
  clear h
  have fa := Lib.hid ia.2.2
  have IA := Lib.hid ia
  clear ia
  obtain ⟨i0, hi0, hz0, hz1, hz2⟩ := info_parts rginfo
  go_enter Try.func9, Try.ntmps9
  go_wp2_with fail
  refine (awake_any _).mono ?_
  rintro e w1 ⟨rfl, hb1⟩
  have U1 := Lib.hid (show Und w w1 from hb1)
  clear hb1
  go_wp2_with fail
  refine (HL w1).out.mono ?_
  rintro e w2 ⟨rfl, rfl⟩
  have I1 := Lib.hid (IA.out.und U1.out)
  clear IA
  go_wp2_with fail
  go_loopw [5, 6] (fun v i wr => ∃ k : Nat, k ≤ l.length ∧ i = .int .i64 k ∧ wr.ownsRow w1.heap.size 30 2 v k (rgv ((l.take k).map (mvR d))) ∧ Hid (∀ r ∈ l.take k, max r.2 0 ≤ 1125899906842624) ∧ Und w1 wr) (fun _ i _ => l.length - (intOf i).toNat)
  case atStart => exact ⟨0, Nat.zero_le _, rfl, own_nil _ _ _ _, fun r hr => by simp at hr, und_refl _⟩
  case round =>
    obtain ⟨k, hk, rfl, hown, HA, hu⟩ := hrel
    have HU := Lib.hid hu
    have HO := Lib.hid hown
    have hus := Below.size hu
    by_cases hlt : k < l.length
    · obtain ⟨b, off, rfl, hbB, hc⟩ := (I1.out.und hu).1.rg (by omega)
      obtain ⟨x1, x2⟩ := hc k hlt
      have hi : (k : Int) < (l.length : Int) := by omega
      have k0 : (0 : Int) ≤ (k : Int) := by omega
      have HN : Hid (max l[k].2 0 ≤ 1125899906842624 → ∀ r ∈ l.take (k + 1), max r.2 0 ≤ 1125899906842624) := Lib.hid (fun h r hr => by
        rw [List.take_succ_eq_append_getElem hlt] at hr
        rcases List.mem_append.1 hr with hr | hr
        · exact HA.out r hr
        · simp at hr; subst hr; exact h)
      have HT : Hid ((l.take (k + 1)).map (mvR d) = (l.take k).map (mvR d) ++ [mvR d l[k]]) := Lib.hid (by rw [List.take_succ_eq_append_getElem hlt, List.map_append]; rfl)
      have hm : mvR d l[k] = (min (max l[k].1 0) 1125899906842624 + d, max l[k].2 0 + d) := rfl
      rw [hm] at HT
      clear hc hm hown hu
      generalize l[k].1 = x at *
      generalize l[k].2 = y at *
      go_upto_region 7 with fail
      go_cut [7, 8] (fun s7 s8 wx => s7 = .int .i64 (max x 0) ∧ s8 = .int .i64 (max y 0) ∧ ∃ nq, wr.drewN nq = wx)
      case first =>
        go_wp2_with fail
        go_quiet (fail)
        go_wp2_with fail
        all_goals
          go_meet
          exact ⟨congrArg (Value.int .i64) (by omega), congrArg (Value.int .i64) (by omega), _, rfl⟩
      obtain ⟨rfl, rfl, nq, rfl⟩ := hcut
      have fx0 : 0 ≤ max x 0 := by omega
      have fy0 : 0 ≤ max y 0 := by omega
      generalize max x 0 = fx at *
      generalize max y 0 = fy at *
      by_cases hy : 1125899906842624 < fy
      · go_wp2_with fail
        go_ret
        exact ⟨rfl, und_trans U1.out (below_drewN HU.out _)⟩
      · have hy2 : fy ≤ 1125899906842624 := by omega
        have HN2 := Lib.hid (HN.out hy2)
        clear hy
        have HO2 : Hid ((wr.drewN nq).ownsRow w1.heap.size 30 2 u5 k (rgv ((l.take k).map (mvR d)))) := Lib.hid HO.out
        have HU2 : Hid (Und w1 (wr.drewN nq)) := Lib.hid (below_drewN HU.out _)
        have hus2 : w1.heap.size ≤ (wr.drewN nq).heap.size := hus
        clear HO HU hus
        obtain ⟨m, hm1, hm2, hm3⟩ : ∃ m, min fx 1125899906842624 = m ∧ 0 ≤ m ∧ m ≤ 1125899906842624 := ⟨_, rfl, by omega, by omega⟩
        rw [hm1] at HT
        go_wp2_with (at_builtin; refine wpList_append_own _ rfl (.tmp 47) (.tmp 56) 22 rfl w1.heap.size 30 i0 (.agg #[.int .i64 0, .int .i64 0]) 2 16 Try.underlying22 hi0 hz0 hz1 hz2 rfl (by decide) u5 k _ rfl (HO2.out.alloc _) ⟨(wr.drewN nq).heap.size, 0, none⟩ 1 1 [.int .i64 (m + d), .int .i64 (fy + d)] rfl rfl (cells_new _ _ _) (two_int _ _) (rg_63 (by omega)) (rg_47 (by omega)) (und_size hus2 _) ?_)
        intro v1 w2 hown1 hg1 _
        have HO1 := Lib.hid hown1
        have HB1 := Lib.hid (((und_alloc HU2.out (.cells #[.int .i64 (m + d), .int .i64 (fy + d)] 30))).grown hg1 (und_size hus2 _) (own_ge HO2.out))
        clear hown1 hg1
        go_wp2
        go_roundw
        case rel =>
          refine ⟨k + 1, by omega, by go_num, ?_, HN2, HB1.out⟩
          rw [HT.out, rgv_append, List.map_take]
          exact HO1.out
        case measure => simp [intOf]; omega
    · obtain rfl : k = l.length := by omega
      have hall := HA.out
      rw [List.take_length] at hall
      have hown2 := HO.out
      rw [List.take_length] at hown2
      obtain ⟨A5, c5, rfl, _, _, hr5, _⟩ := own_formN hown2 (by omega)
      have hl5 : (l.map (mvR d)).length = l.length := by simp
      have i5 : RgIn wr A5 (l.map (mvR d)) := ⟨by rw [hl5]; exact hr5, by rw [hl5]; omega, mvR_fits l d hd1 hd2 hall⟩
      have I5 := Lib.hid i5
      have I2 := Lib.hid (I1.out.und hu)
      have U2 := Lib.hid (und_trans U1.out hu)
      have HAll := Lib.hid hall
      clear hall hown hown2 hr5 i5 HO HA HU hu I1
      go_wp2_with fail
      refine (rNormal_any l A c wr I2.out).mono ?_
      rintro e w3 ⟨A6, c6, La, rfl, r6, n6, hb6⟩
      have bl6 := canon_length n6
      simp only [List.length_nil] at bl6
      have I6 := Lib.hid (mix_in (Or.inl rfl) (by omega) (by simp) fa.out fits_nil r6 n6)
      have CA := Lib.hid (n6.congr fun k => wayP_nil l k)
      have I3 := Lib.hid (I2.out.below hb6)
      have I7 := Lib.hid (I5.out.below hb6)
      have U3 := Lib.hid (und_call U2.out hb6)
      clear r6 n6 hb6 I2 I5 U2
      have hcall := rNormal_any (l.map (mvR d)) A5 c5 w3 I7.out
      rw [hl5] at hcall
      have HC := Lib.hid hcall
      clear hcall
      go_wp2_with fail
      refine HC.out.mono ?_
      rintro e w4 ⟨A8, c8, Lb, rfl, r8, n8, hb8⟩
      have CB := Lib.hid (n8.congr fun k => wayP_nil (l.map (mvR d)) k)
      have hEq := moved_canon d hd1 HAll.out CA.out CB.out
      have i8 := mix_in (Or.inl rfl) (by rw [hl5]; omega) (by simp) I7.out.2.2 fits_nil r8 n8
      have I8 := Lib.hid i8
      have I9 := Lib.hid (I6.out.below hb8)
      have I10 := Lib.hid (I3.out.below hb8)
      have I11 := Lib.hid (I7.out.below hb8)
      have U4 := Lib.hid (und_call U3.out hb8)
      have TE : Hid (totN (l.map (mvR d)) = totN l) := Lib.hid (by
        have h1 := totN_canon CA.out fa.out
        have h2 := totN_canon CB.out I7.out.2.2
        rw [hEq, upR_tot] at h2
        omega)
      have hLb : Lb.length = La.length := by rw [hEq]; simp
      have HEq := Lib.hid hEq
      have CAR := Lib.hid (right_pos CA.out.1)
      have CAF := Lib.hid (canon_fits CA.out (fun _ hn => mem_lt fa.out hn))
      have CBF := Lib.hid I8.out.2.2
      clear r8 n8 hb8 i8 hEq HC I3 I6 I7 U3
      rw [hLb]
      have hnn : ((La.length : Int) != (La.length : Int)) = false := by rw [bne_eq_false_iff_eq]
      go_wp2_with fail
      go_loopw [11] (fun i wx => ∃ k : Nat, k ≤ La.length ∧ i = .int .i64 k ∧ Und w4 wx) (fun i _ => La.length - (intOf i).toNat)
      case atStart => exact ⟨0, Nat.zero_le _, rfl, und_refl _⟩
      case round =>
        obtain ⟨k, hk, rfl, hu⟩ := hrel
        have HU := Lib.hid hu
        by_cases hlt : k < La.length
        · have hlt2 : k < Lb.length := by omega
          obtain ⟨b, off, rfl, hbB, hc⟩ := (I9.out.und hu).1.rg (by omega)
          obtain ⟨x1, x2⟩ := hc k hlt
          obtain ⟨b', off', rfl, hbB', hc'⟩ := (I8.out.und hu).1.rg (by omega)
          obtain ⟨y1, y2⟩ := hc' k hlt2
          have hi : (k : Int) < (La.length : Int) := by omega
          have k0 : (0 : Int) ≤ (k : Int) := by omega
          have hp := CAR.out _ (List.getElem_mem hlt)
          have hfb := CBF.out _ (List.getElem_mem hlt2)
          have hg : Lb[k] = upR d La[k] := by
            have e := HEq.out
            subst e
            simp
          have g1 : Lb[k].1 = La[k].1 + d := by rw [hg]; rfl
          have g2 : Lb[k].2 = La[k].2 + d := by rw [hg]; rfl
          rw [g1] at y1 hfb
          rw [g2] at y2 hfb
          clear hc hc' hu hg g1 g2
          generalize La[k].1 = x at *
          generalize La[k].2 = y at *
          have hw1 : IntKind.i64.wrap (x + d) = x + d := IntWalk.i64_in _ (by omega)
          have hw2 : IntKind.i64.wrap (y + d) = y + d := IntWalk.i64_in _ (by omega)
          have hn1' : ((x + d) != (x + d)) = false := by rw [bne_eq_false_iff_eq]
          have hn2' : ((y + d) != (y + d)) = false := by rw [bne_eq_false_iff_eq]
          go_wp2_with fail
          go_quiet (fail)
          go_wp2_with fail
          go_roundw
          case rel => exact ⟨k + 1, by omega, by go_num, below_drewN HU.out _⟩
          case measure => simp [intOf]; omega
        · have U5 := Lib.hid (und_trans U4.out hu)
          have I12 := Lib.hid (I10.out.und hu)
          have I13 := Lib.hid (I11.out.und hu)
          clear hu
          obtain rfl : k = La.length := by omega
          go_wp2_with fail
          refine (rTotal_any l A c wr I12.out).mono ?_
          rintro e w6 ⟨rfl, hb6⟩
          have I14 := Lib.hid (I13.out.below hb6)
          have U6 := Lib.hid (und_call U5.out hb6)
          clear hb6
          have hcall := rTotal_any (l.map (mvR d)) A5 c5 w6 I14.out
          rw [hl5, TE.out] at hcall
          have HC := Lib.hid hcall
          clear hcall
          go_wp2_with fail
          refine HC.out.mono ?_
          rintro e w7 ⟨rfl, hb7⟩
          have U7 := Lib.hid (und_call U6.out hb7)
          clear hb7
          go_wp2
          go_ret
          exact ⟨by simp, U7.out⟩

theorem walk (A : Option Addr) (l : List Rg) (c : Nat) (n : Int) (w : World) (_hlc : l.length ≤ c) (_hcm : c ≤ maxLen) (hr : Reads w w.heap.size 2 A l.length (rgv l)) (hf : Fits64 l) (_hn : (Lit.int .i64 n).wf = true) :
    Calls Try.prog 9 #[.slice A l.length c, .int .i64 n] w fun e w' => e = .returned (.bool true) ∧ Below w.heap.size w w' := by
  rcases h : (decide (60 < l.length) || decide (60 < ([] : List Rg).length)) with _ | _
  · have h2 : l.length ≤ 60 := by simp at h; omega
    by_cases hnn : 0 ≤ n ∧ n ≤ 1099511627776
    · exact walk_short A l c n w ⟨hr, by omega, hf⟩ h2 hnn.1 hnn.2 h
    · exact walk_far A l c n w h (by omega)
  · exact walk_long A l c n w h

set_option maxRecDepth 100000 in
theorem lifted (os : Os) (started : os.Started) (H : Type) (enc : TypeId × Value → H) :
    ReturnsInHanded {} Try.checked os 9 .any (Rows.rangesMovedSpec.pre6 enc Try.prog Try.f9 Rows.rangesMovedRow.domain false) (Rows.rangesMovedSpec.post enc Try.prog Try.f9 false true false false) := by
  refine returnsInHanded_of_change_sized (C := Try.checked) own started (by kernel_rfl) Try.func9
    (ChangeSpec.witness6 (enc := enc) (C := Try.checked) false ⟨#[], #[.slice none 0 0, .int .i64 0], []⟩ 8 (by kernel_rfl) (by kernel_rfl) (by kernel_rfl) (by kernel_rfl)) ?_
  intro W base args ds gs before hval0 hW hcnd hsz0 _
  have hsz : (DataW.weightsEach Try.prog (Try.f9.params.toList ++ Rows.rangesMovedSpec.plain.varTypes Try.prog) (ds ++ gs)).all (· ≤ reachBytes) = true := hsz0
  have hval : ∀ (j : Nat) t v, Try.f9.params[j]? = some t → args[j]? = some v → Value.okWide Try.prog W .any base t v := hval0
  have hW' := hW
  obtain ⟨p, q, hA0, hV, rfl, hfz, hnd⟩ := hW
  have hA : DataW.TrodAll enc Try.prog W 0 (fun _ => true) true Try.f9.params.toList args.toList ds p := hA0
  rw [Try.params9] at hA hval hsz
  obtain ⟨v0, vs0, d0, ds0, p0, q0, hargs, rfl, rfl, h0, r0⟩ := trodAll_cons hA
  obtain ⟨v1, vs1, d1, ds1, p1, q1, rfl, rfl, rfl, h1, r1⟩ := trodAll_cons r0
  obtain ⟨rfl, rfl, rfl⟩ := trodAll_nil r1
  obtain rfl : args = #[v0, v1] := by cases args; simp_all
  obtain ⟨rfl, rfl⟩ := trodVars_none hV
  have k0 := h0
  have lt0 : ∀ x ∈ p0, x.block < W.heap.size := by obtain ⟨m, hm⟩ := k0; exact DataW.trod_lt m _ _ _ hm
  obtain ⟨A0, l0, c0, rfl, hlc0, hcm0, hr0, hf0⟩ := open_ranges Try.underlying22 Try.underlying30 (by kernel_rfl) (by kernel_rfl) Try.underlying3 Try.underlying3 (hval 0 22 v0 rfl rfl) h0
  obtain ⟨a1, rfl, rfl, rfl, w1⟩ := open_int Try.underlying3 (hval 1 3 v1 rfl rfl) h1
  clear hA0 hval0 hsz0
  refine (walk A0 l0 c0 a1 W hlc0 hcm0 hr0 hf0 w1).mono fun e W' ⟨he, bel⟩ => ?_
  subst he
  exact ⟨_, rfl, _, _, _, [], _, [], hW', trodAll_mk1 (shut_bool Try.underlying4 _), (trodAll_cons_mk (Below.trod laidOut (by kernel_rfl) (of_decide_eq_true (by kernel_rfl)) k0 bel lt0) (trodAll_cons_mk (shut_int Try.underlying3 w1) trodAll_mk0)), rfl, bel.frame _, fun h => by cases h⟩

theorem over : Rows.rangesMovedRow.holds Try.pinned (OpenSpec.ofChange Rows.rangesMovedSpec) :=
  OpenClaim.holds_of_wide 9 Try.f9 rfl rfl rfl rfl rfl rfl rfl ⟨rfl, rfl, rfl, rfl, rfl⟩ rfl rfl rfl rfl rfl (by kernel_rfl) Try.func9 (by kernel_rfl)
    (of_decide_eq_true (by kernel_rfl)) (by unfold Func.isWrapper; first | (rw [if_pos (by decide +kernel)]; kernel_rfl) | (rw [if_neg (by decide +kernel)]; exact ⟨rfl, rfl⟩))
    (fun os started H enc _ => lifted os started H enc)

/-- The statement. -/
theorem proved : Rows.RangesMovedSaid := over
#print axioms proved
end Go.Proofs.Ytfdmbgaincmefaa.rangesMoved
