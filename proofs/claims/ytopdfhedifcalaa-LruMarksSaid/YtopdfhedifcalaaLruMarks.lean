/- The statement LruMarks: which keys are marked hangs on the marks alone. No conditions. -/
import Derived.Test.YtopdfhedifcalaaRows
import Derived.Test.YtopdfhedifcalaaOpen
import Derived.Test.YtopdfhedifcalaaLmA
import Derived.Test.YtopdfhedifcalaaOpenL
import Derived.Test.YtopdfhedifcalaaPick
import Derived.Test.YtopdfhedifcalaaLqE
import Derived.WalkKit
import Derived.ProofKit
import Derived.OpenShut
import Derived.ShutString
import Derived.ChangeOld
import Derived.Below
import Derived.SizedLaws
import Derived.JoinedCond
namespace Go.Proofs.Ytopdfhedifcalaa.lruMarks
open Go.ChangeShapes Go.WideShapes Go.ChangeAt Go.RowKit
open Go.ChangeMaps (open_string shut_string)
set_option linter.unusedVariables false

theorem own : ownKnob Try.prog.godebug = none := by kernel_rfl
theorem laidOut : laidOutB Try.prog = true := by kernel_rfl

/-- Both rows are new. -/
theorem marks_new {w w1 w2 : World} {p : Nat} (h1 : LruAt w1 (From w w1) p ⟨4096, []⟩) (b1 : Below w.heap.size w w1) (b2 : Below w1.heap.size w1 w2) {g1 g2 : Nat} {W : World} (hb : Below w2.heap.size w2 W) (hg1 : w2.heap.size ≤ g1) (hg2 : w2.heap.size ≤ g2) (hne : g1 ≠ g2)
    (hB1 : Blk W g1 4 ((List.replicate 30 false).map Value.bool).toArray) (hB2 : Blk W g2 4 ((List.replicate 30 false).map Value.bool).toArray) :
    MarkM w.heap.size W p (From w w1) ⟨4096, []⟩ g1 g2 (List.replicate 30 false) (List.replicate 30 false) := by
  have s1 := b1.size
  have s2 := b2.size
  have s3 := hb.size
  refine ⟨h1.below (b2.trans (hb.mono s2)), fun k hk => ⟨hk.1, ?_⟩, fun hk => ?_, fun hk => ?_, hB1, hB2, hne, by omega, by omega⟩
  · have := hk.2; omega
  · have := hk.2; omega
  · have := hk.2; omega

/-- The marked keys are the ones that were counted up. -/
theorem marks_ints {w w1 : World} {A A' : Option Addr} {a l : List Int} {m : Nat} (c c' : Nat) {B B' : Nat} (h : IntRow w1 B (.slice A a.length c) a) (hb : Below w.heap.size w w1) (e : a = l) (hm : l.length = m) (h' : IntRow w B' (.slice A' m c') l) (hl : m ≤ 30) :
    Calls Try.prog 14 #[.slice A a.length c, .slice A' m c'] w1 fun e w' => e = .returned (.bool true) ∧ ∃ n, w' = w1.drewN n := by
  subst e
  subst hm
  have h2 : IntsAt w A' a := Reads.of_own h'
  have := ints_any c c' (Reads.of_own h) (h2.below hb) (by omega) (by omega)
  rw [decide_eq_true rfl] at this
  exact this
set_option maxRecDepth 100000 in
set_option maxHeartbeats 16000000 in
theorem walk (A : Option Addr) (l : List (Int × Int)) (c : Nat) (w : World) (hll : l.length ≤ 9223372036854775807) (hcl : CallsIn2 w A l) (hnl : Nums2 l) :
    Calls Try.prog 7 #[.slice A l.length c] w fun e w' => e = .returned (.bool true) ∧ Below w.heap.size w w' := by
  have HAw := Lib.hid awake_any
  have HNew := Lib.hid (lru_new_ok 4096 w (by decide) (by decide))
  have HC := Lib.hid hcl
  have HNl := Lib.hid hnl
  have hmk : ∀ W, (Instr.makeSlice 50 (.int .i64 30) (.int .i64 30)).run Try.prog W = .ok (.slice (some ⟨W.heap.size, 0, none⟩) 30 30) (W.alloc (.cells ((List.replicate 30 false).map Value.bool).toArray 4)) := fun W => by
    have e : ((List.replicate 30 false).map Value.bool).toArray = madeCells #[Value.bool false] 30 := by kernel_rfl
    rw [e]
    exact run_make_row' (P := Try.prog) 50 4 (.bool false) 1 Try.underlying50 bool_info rfl .i64 .i64 30 (by omega) (by omega) W
  clear hcl hnl hll
  obtain ⟨i0, hi0, hz0, hz1, hz2⟩ := info_parts intinfo
  generalize hz30 : List.replicate 30 false = Z at *
  go_enter Try.func7, Try.ntmps7
  go_upto_region 4 with (first
    | (go_at_call 8; refine HNew.out.mono ?_; rintro e w1 ⟨p, rfl, k1, b1, -, -⟩)
    | (go_at_call 9; refine (HAw.out _).mono ?_; rintro e w2 ⟨rfl, b2⟩))
  have HBa : Hid (Below w2.heap.size w2 ((w2.alloc (.cells (Z.map Value.bool).toArray 4)).alloc (.cells (Z.map Value.bool).toArray 4)).drew) := Lib.hid (((Below.refl _ w2).alloc (Nat.le_refl _) _).alloc (by simp) _).drew
  have HX1 : Hid (Blk ((w2.alloc (.cells (Z.map Value.bool).toArray 4)).alloc (.cells (Z.map Value.bool).toArray 4)).drew w2.heap.size 4 ((List.replicate 30 false).map Value.bool).toArray) := Lib.hid (by rw [hz30]; exact ((Blk.new w2 _ _).alloc _).drew)
  have HX2 : Hid (Blk ((w2.alloc (.cells (Z.map Value.bool).toArray 4)).alloc (.cells (Z.map Value.bool).toArray 4)).drew (w2.heap.size + 1) 4 ((List.replicate 30 false).map Value.bool).toArray) := Lib.hid (by
    rw [hz30]
    have := Blk.new (w2.alloc (.cells (Z.map Value.bool).toArray 4)) 4 (Z.map Value.bool).toArray
    rw [World.size_alloc] at this
    exact this.drew)
  have HS0 : Hid (MarkS ⟨4096, []⟩ Z Z 0) := Lib.hid (by rw [← hz30]; exact mark_start)
  have HB0 : Hid (Below w.heap.size w ((w2.alloc (.cells (Z.map Value.bool).toArray 4)).alloc (.cells (Z.map Value.bool).toArray 4)).drew) := Lib.hid ((b1.trans (b2.mono b1.size)).trans (HBa.out.mono (Nat.le_trans b1.size b2.size)))
  go_region_held3 (fun _ => True) (trivial) (fail)
  · have HMa := Lib.hid (marks_new k1 b1 b2 (g1 := w2.heap.size) (g2 := w2.heap.size + 1) (W := ((w2.alloc (.cells (Z.map Value.bool).toArray 4)).alloc (.cells (Z.map Value.bool).toArray 4)).drew) HBa.out (Nat.le_refl _) (Nat.le_succ _) (by omega) HX1.out HX2.out)
    rw [hz30] at HMa
    clear k1 b1 b2 HNew HX1 HX2 HBa hz30
    generalize ((w2.alloc (.cells (Z.map Value.bool).toArray 4)).alloc (.cells (Z.map Value.bool).toArray 4)).drew = W0 at *
    generalize w2.heap.size + 1 = g2 at *
    generalize w2.heap.size = g1 at *
    go_upto_region 6 with fail
    go_loopw [7, 8, 9, 10, 11] (fun i _ _ _ _ wr => ∃ (k : Nat) (s : LU) (F : Nat → Prop) (T M : List Bool), k ≤ l.length ∧ k ≤ 200 ∧ i = .int .i64 k ∧ Hid (MarkM w.heap.size wr p F s g1 g2 T M) ∧ Hid (MarkS s T M k) ∧ Hid (Below w.heap.size w wr)) (fun i _ _ _ _ _ => l.length - (intOf i).toNat)
    case atStart => exact ⟨0, _, _, _, _, Nat.zero_le _, Nat.zero_le _, rfl, HMa, HS0, HB0⟩
    case round =>
      clear HMa HS0 HB0
      obtain ⟨k, s, F, T, M, hk, hk1, rfl, HM, HS, HB⟩ := hrel
      by_cases hgo : k < l.length ∧ k < 200
      · obtain ⟨hlt, h80⟩ := hgo
        have hi : (k : Int) < (l.length : Int) := by omega
        have hi8 : (k : Int) < 200 := by omega
        have hik0 : (0 : Int) ≤ (k : Int) := by omega
        obtain ⟨b, o, rfl, hb, hc⟩ := HC.out (fun e => by rw [e] at hlt; exact absurd hlt (Nat.not_lt_zero _))
        obtain ⟨x0, x1⟩ := hc k hlt
        have y0 := (HB.out.cell (p := ⟨b, o + k * 2, none⟩) hb).trans x0
        have y1 := (HB.out.cell (p := ⟨b, o + k * 2 + 1, none⟩) hb).trans x1
        clear hc x1
        generalize l[k] = cl at *
        obtain ⟨kd, key⟩ := cl
        simp only at y0 y1 x0
        have HCk : Hid (∀ W, Below w.heap.size w W → W.cell? ⟨b, o + k * 2, none⟩ = some (.int .i64 kd)) := Lib.hid fun W hbw => (hbw.cell (p := ⟨b, o + k * 2, none⟩) hb).trans x0
        clear x0
        obtain ⟨t, ht, ht30⟩ : ∃ t : Nat, key % 30 = (t : Int) ∧ t < 30 := ⟨(key % 30).toNat, by omega, by omega⟩
        have HPk : Hid (Calls Try.prog 17 #[.int .i64 key, .int .i64 30] wr fun e w' => e = .returned (.int .i64 (t : Int)) ∧ wr = w') := Lib.hid (by
          have := pick_any key 30 wr ⟨by omega, by omega⟩
          rw [ht] at this
          exact this)
        have ht0 : (0 : Int) ≤ (t : Int) := by omega
        have ht1 : (t : Int) < 30 := by omega
        have HWt : Hid (Num (t : Int)) := Lib.hid ((by decide : ∀ t : Nat, t < 30 → (Lit.int .i64 (t : Int)).wf = true) t ht30)
        have hTl := HS.out.lt
        have hMl := HS.out.lm
        have HCell : Hid (∀ W F s', MarkM w.heap.size W p F s' g1 g2 T M → W.cell? ⟨g1, t, none⟩ = some (.bool (s.has (t : Int))) ∧ W.cell? ⟨g2, t, none⟩ = some (.bool (s.lit (t : Int))) ∧ W.frozen? ⟨g1, t, none⟩ = false ∧ W.frozen? ⟨g2, t, none⟩ = false) := Lib.hid fun W F s' h => by
          refine ⟨?_, ?_, h.r1.frozen t, h.r2.frozen t⟩
          · rw [← HS.out.has t ht30]; exact bools_at h.r1 (by omega)
          · rw [← HS.out.lit t ht30]; exact bools_at h.r2 (by omega)
        obtain ⟨c1, c2, f1, f2⟩ := HCell.out wr F s HM.out
        have HN1 := Lib.hid HM.out.n1
        have HN2 := Lib.hid HM.out.n2
        have hg12 := HM.out.ne
        have HLH : Hid (s.lit (t : Int) = true → s.has (t : Int) = true) := Lib.hid fun e => LU.lit_has e
        clear ht hTl hMl
        by_cases h2 : kd = 2
        · subst h2
          have hA := at_add HM.out.at_ (t : Int) HWt.out
          rw [HS.out.addV (by omega)] at hA
          have HSA := Lib.hid (HS.out.add (by omega) ht30)
          cases hh : s.has (t : Int)
          · have hl : s.lit (t : Int) = false := by
              cases hl : s.lit (t : Int) with
              | false => rfl
              | true => have := HLH.out hl; rw [hh] at this; cases this
            rw [hh] at HCell HSA c1
            rw [hl] at HCell HSA c2
            rw [hh] at hA
            rw [if_neg (by decide)] at hA
            have HA := Lib.hid hA
            clear hA hh hl HLH
            go_wp2_with (first
              | (go_at_call 17; refine HPk.out.mono ?_; rintro e w4 ⟨rfl, rfl⟩)
              | (go_at_call 19; refine HA.out.mono ?_; rintro e w5 ⟨rfl, ha, ho⟩; have HM5 := Lib.hid (HM.out.step HB.out.size ha ho); have HB5 := Lib.hid (HM.out.bel HB.out.size HB.out ho); obtain ⟨d1, d2, e1, e2⟩ := HCell.out w5 _ _ HM5.out; have d1' : (w5.setCell ⟨g2, t, none⟩ (.bool false)).cell? ⟨g1, t, none⟩ = some (.bool false) := (cell_far _ _ fun e => absurd e.symm hg12).trans d1; have HMn := Lib.hid ((HM5.out.set2 t false).set1 t true); have HSn := HSA; have HBn := Lib.hid ((HB5.out.setCell (p := ⟨g2, t, none⟩) HN2.out (.bool false)).setCell (p := ⟨g1, t, none⟩) HN1.out (.bool true)); clear ha ho))
            go_roundw
            case rel => exact ⟨k + 1, _, _, _, _, by omega, by omega, by go_num, HMn, HSn, HBn⟩
            case measure => simp [intOf]; omega
          · cases hl : s.lit (t : Int)
            · rw [hh] at HCell HSA c1
              rw [hl] at HCell HSA c2
              rw [hh] at hA
              rw [if_pos rfl] at hA
              have HA := Lib.hid hA
              clear hA hh hl HLH
              go_wp2_with (first
                | (go_at_call 17; refine HPk.out.mono ?_; rintro e w4 ⟨rfl, rfl⟩)
                | (go_at_call 19; refine HA.out.mono ?_; rintro e w5 ⟨rfl, ha, ho⟩; have HM5 := Lib.hid (HM.out.step HB.out.size ha ho); have HB5 := Lib.hid (HM.out.bel HB.out.size HB.out ho); obtain ⟨d1, d2, e1, e2⟩ := HCell.out w5 _ _ HM5.out; have d1' : (w5.setCell ⟨g2, t, none⟩ (.bool false)).cell? ⟨g1, t, none⟩ = some (.bool true) := (cell_far _ _ fun e => absurd e.symm hg12).trans d1; have HMn := Lib.hid ((HM5.out.set2 t false).set1 t true); have HSn := HSA; have HBn := Lib.hid ((HB5.out.setCell (p := ⟨g2, t, none⟩) HN2.out (.bool false)).setCell (p := ⟨g1, t, none⟩) HN1.out (.bool true)); clear ha ho))
              go_roundw
              case rel => exact ⟨k + 1, _, _, _, _, by omega, by omega, by go_num, HMn, HSn, HBn⟩
              case measure => simp [intOf]; omega
            · rw [hh] at HCell HSA c1
              rw [hl] at HCell HSA c2
              rw [hh] at hA
              rw [if_pos rfl] at hA
              have HA := Lib.hid hA
              clear hA hh hl HLH
              go_wp2_with (first
                | (go_at_call 17; refine HPk.out.mono ?_; rintro e w4 ⟨rfl, rfl⟩)
                | (go_at_call 19; refine HA.out.mono ?_; rintro e w5 ⟨rfl, ha, ho⟩; have HM5 := Lib.hid (HM.out.step HB.out.size ha ho); have HB5 := Lib.hid (HM.out.bel HB.out.size HB.out ho); obtain ⟨d1, d2, e1, e2⟩ := HCell.out w5 _ _ HM5.out; have d1' : (w5.setCell ⟨g2, t, none⟩ (.bool true)).cell? ⟨g1, t, none⟩ = some (.bool true) := (cell_far _ _ fun e => absurd e.symm hg12).trans d1; have HMn := Lib.hid ((HM5.out.set2 t true).set1 t true); have HSn := HSA; have HBn := Lib.hid ((HB5.out.setCell (p := ⟨g2, t, none⟩) HN2.out (.bool true)).setCell (p := ⟨g1, t, none⟩) HN1.out (.bool true)); clear ha ho))
              go_roundw
              case rel => exact ⟨k + 1, _, _, _, _, by omega, by omega, by go_num, HMn, HSn, HBn⟩
              case measure => simp [intOf]; omega
        by_cases h3 : kd = 3
        · subst h3
          have hA := at_drop (HM.out.below (Below.refl _ wr).drew).at_ (t : Int) HWt.out
          rw [drop_says HS.out.free] at hA
          have HSn := Lib.hid (HS.out.drop ht30)
          generalize s.has (t : Int) = tb at *
          generalize s.lit (t : Int) = mb at *
          have HA := Lib.hid hA
          clear hA
          go_upto_region 19 with (go_at_call 17; refine HPk.out.mono ?_; rintro e w4 ⟨rfl, rfl⟩)
          go_region_held3 (fun w' => w'.cell? ⟨g1, t, none⟩ = some (.bool tb))
            (first
              | exact c1
              | exact d1
              | go_keep)
            (first
              | (go_at_call 22; refine HA.out.mono ?_; rintro e w5 ⟨rfl, ha, ho⟩; have HM5 := Lib.hid ((HM.out.below (Below.refl _ wr).drew).step HB.out.size ha ho); have HB5 := Lib.hid ((HM.out.below (Below.refl _ wr).drew).bel HB.out.size HB.out.drew ho); obtain ⟨d1, d2, e1, e2⟩ := HCell.out w5 _ _ HM5.out)
              | fail)
          all_goals
            have d2' : (w5.setCell ⟨g1, t, none⟩ (.bool false)).cell? ⟨g2, t, none⟩ = some (.bool mb) := (cell_far _ _ fun e => absurd e hg12).trans d2
            have HMn := Lib.hid ((HM5.out.set1 t false).set2 t false)
            have HBn := Lib.hid ((HB5.out.setCell (p := ⟨g1, t, none⟩) HN1.out (.bool false)).setCell (p := ⟨g2, t, none⟩) HN2.out (.bool false))
            clear ha ho
            go_wp2_with fail
            go_roundw
            case rel => exact ⟨k + 1, _, _, _, _, by omega, by omega, by go_num, HMn, HSn, HBn⟩
            case measure => simp [intOf]; omega
        by_cases h6 : kd = 6
        · subst h6
          have hA := at_mark (HM.out.below (Below.refl _ wr).drew).at_ (t : Int) true HWt.out
          rw [show (s.mark (t : Int) true).2 = s.has (t : Int) from rfl] at hA
          have HSA := Lib.hid (HS.out.mark ht30 true)
          generalize s.has (t : Int) = tb at *
          generalize s.lit (t : Int) = mb at *
          have HA := Lib.hid hA
          clear hA
          go_upto_region 24 with (go_at_call 17; refine HPk.out.mono ?_; rintro e w4 ⟨rfl, rfl⟩)
          go_region_held3 (fun w' => w'.cell? ⟨g1, t, none⟩ = some (.bool tb) ∧ w'.cell? ⟨b, o + k * 2, none⟩ = some (.int .i64 6))
            (first
              | exact ⟨c1, y0⟩
              | exact ⟨d1, d3⟩
              | go_keep)
            (first
              | (go_at_call 24; refine HA.out.mono ?_; rintro e w5 ⟨rfl, ha, ho⟩; have HM5 := Lib.hid ((HM.out.below (Below.refl _ wr).drew).step HB.out.size ha ho); have HB5 := Lib.hid ((HM.out.below (Below.refl _ wr).drew).bel HB.out.size HB.out.drew ho); obtain ⟨d1, d2, e1, e2⟩ := HCell.out w5 _ _ HM5.out; have d3 := HCk.out w5 HB5.out)
              | fail)
          all_goals
            clear ha ho
            cases tb
            · have HMn := Lib.hid (HM5.out.set2 t (false && true))
              have HSn := HSA
              have HBn := Lib.hid (HB5.out.setCell (p := ⟨g2, t, none⟩) HN2.out (.bool (false && true)))
              rw [show (false && true) = false from rfl] at HMn HSn HBn
              clear HSA
              go_wp2_with fail
              go_roundw
              case rel => exact ⟨k + 1, _, _, _, _, by omega, by omega, by go_num, HMn, HSn, HBn⟩
              case measure => simp [intOf]; omega
            · have HMn := Lib.hid (HM5.out.set2 t (true && true))
              have HSn := HSA
              have HBn := Lib.hid (HB5.out.setCell (p := ⟨g2, t, none⟩) HN2.out (.bool (true && true)))
              rw [show (true && true) = true from rfl] at HMn HSn HBn
              clear HSA
              go_wp2_with fail
              go_roundw
              case rel => exact ⟨k + 1, _, _, _, _, by omega, by omega, by go_num, HMn, HSn, HBn⟩
              case measure => simp [intOf]; omega
        by_cases h7 : kd = 7
        · subst h7
          have hA := at_mark (HM.out.below (Below.refl _ wr).drew).at_ (t : Int) false HWt.out
          rw [show (s.mark (t : Int) false).2 = s.has (t : Int) from rfl] at hA
          have HSA := Lib.hid (HS.out.mark ht30 false)
          generalize s.has (t : Int) = tb at *
          generalize s.lit (t : Int) = mb at *
          have HA := Lib.hid hA
          clear hA
          go_upto_region 24 with (go_at_call 17; refine HPk.out.mono ?_; rintro e w4 ⟨rfl, rfl⟩)
          go_region_held3 (fun w' => w'.cell? ⟨g1, t, none⟩ = some (.bool tb) ∧ w'.cell? ⟨b, o + k * 2, none⟩ = some (.int .i64 7))
            (first
              | exact ⟨c1, y0⟩
              | exact ⟨d1, d3⟩
              | go_keep)
            (first
              | (go_at_call 24; refine HA.out.mono ?_; rintro e w5 ⟨rfl, ha, ho⟩; have HM5 := Lib.hid ((HM.out.below (Below.refl _ wr).drew).step HB.out.size ha ho); have HB5 := Lib.hid ((HM.out.below (Below.refl _ wr).drew).bel HB.out.size HB.out.drew ho); obtain ⟨d1, d2, e1, e2⟩ := HCell.out w5 _ _ HM5.out; have d3 := HCk.out w5 HB5.out)
              | fail)
          all_goals
            clear ha ho
            cases tb
            · have HMn := Lib.hid (HM5.out.set2 t (false && false))
              have HSn := HSA
              have HBn := Lib.hid (HB5.out.setCell (p := ⟨g2, t, none⟩) HN2.out (.bool (false && false)))
              rw [show (false && false) = false from rfl] at HMn HSn HBn
              clear HSA
              go_wp2_with fail
              go_roundw
              case rel => exact ⟨k + 1, _, _, _, _, by omega, by omega, by go_num, HMn, HSn, HBn⟩
              case measure => simp [intOf]; omega
            · have HMn := Lib.hid (HM5.out.set2 t (true && false))
              have HSn := HSA
              have HBn := Lib.hid (HB5.out.setCell (p := ⟨g2, t, none⟩) HN2.out (.bool (true && false)))
              rw [show (true && false) = false from rfl] at HMn HSn HBn
              clear HSA
              go_wp2_with fail
              go_roundw
              case rel => exact ⟨k + 1, _, _, _, _, by omega, by omega, by go_num, HMn, HSn, HBn⟩
              case measure => simp [intOf]; omega
        have q2 : (kd == 2) = false := by simp [h2]
        have q3 : (kd == 3) = false := by simp [h3]
        have q6 : (kd == 6) = false := by simp [h6]
        have q7 : (kd == 7) = false := by simp [h7]
        have hA := at_use (HM.out.below (Below.refl _ wr).drew).at_ (t : Int) HWt.out
        rw [use_says] at hA
        have HSn := Lib.hid (HS.out.use (t : Int))
        generalize s.has (t : Int) = tb at *
        generalize s.lit (t : Int) = mb at *
        have HA := Lib.hid hA
        clear hA
        go_upto_region 10 with (go_at_call 17; refine HPk.out.mono ?_; rintro e w4 ⟨rfl, rfl⟩)
        go_region_held3 (fun w' => w'.cell? ⟨g1, t, none⟩ = some (.bool tb))
          (first
            | exact c1
            | exact d1
            | go_keep)
          (first
            | (go_at_call 18; refine HA.out.mono ?_; rintro e w5 ⟨rfl, ha, ho⟩; have HMn := Lib.hid ((HM.out.below (Below.refl _ wr).drew).step HB.out.size ha ho); have HBn := Lib.hid ((HM.out.below (Below.refl _ wr).drew).bel HB.out.size HB.out.drew ho); obtain ⟨d1, d2, e1, e2⟩ := HCell.out w5 _ _ HMn.out)
            | fail)
        all_goals
          clear ha ho
          go_wp2_with fail
          go_roundw
          case rel => exact ⟨k + 1, _, _, _, _, by omega, by omega, by go_num, HMn, HSn, HBn⟩
          case measure => simp [intOf]; omega
      · have HEnd := Lib.hid (And.intro hk hk1)
        by_cases hlt : k < l.length
        · have hi : (k : Int) < (l.length : Int) := by omega
          have hi8 : (200 : Int) ≤ (k : Int) := by omega
          clear hgo hlt
          go_upto_region 29 with fail
          obtain ⟨w6, rfl⟩ : ∃ wo : World, wo = wr := ⟨_, rfl⟩
          go_loopw [12, 13] (fun v i wr => ∃ q : Nat, q ≤ 30 ∧ i = .int .i64 q ∧ Hid (IntRow wr w6.heap.size v (upTo M q)) ∧ Hid (Below w6.heap.size w6 wr)) (fun _ i _ => 30 - (intOf i).toNat)
          case atStart => exact ⟨0, Nat.zero_le _, rfl, Lib.hid (introw_nil _ _), Lib.hid (Below.refl _ _)⟩
          case round =>
            obtain ⟨q, hq, rfl, HR, HBr⟩ := hrel
            obtain ⟨m, hm⟩ : ∃ m, (upTo M q).length = m := ⟨_, rfl⟩
            have hm30 : m ≤ 30 := by have := upTo_len M q; omega
            obtain ⟨A5, c5, rfl⟩ := HR.out.slice_n hm
            have HMr := Lib.hid (HM.out.below HBr.out)
            by_cases hlt : q < 30
            · have hqi : (q : Int) < 30 := by omega
              have hq0 : (0 : Int) ≤ (q : Int) := by omega
              have c2 := bools_at HMr.out.r2 (t := q) (by rw [HS.out.lm]; exact hlt)
              have HM30 := Lib.hid hm30
              have HMm := Lib.hid hm
              cases hb : M.getD q false
              · rw [hb] at c2
                have HU := Lib.hid (upTo_no hb)
                clear hb hm
                go_wp2_with fail
                go_roundw
                case rel => exact ⟨q + 1, by omega, by go_num, by rw [HU.out]; exact HR, HBr⟩
                case measure => simp [intOf]; omega
              · rw [hb] at c2
                have HU := Lib.hid (upTo_yes hb)
                clear hb hm
                go_wp2_with (at_builtin; refine wpList_append_any _ rfl (.tmp 143) (.tmp 145) 37 rfl w6.heap.size 3 i0 (.int .i64 0) 1 8 Try.underlying37 hi0 hz0 hz1 hz2 rfl (by decide) (.slice A5 m c5) (upTo M q).length _ rfl (World.ownsRow.alloc HR.out _) (wr.heap.size + 1) (some ⟨wr.heap.size, 0, none⟩) 1 1 [.int .i64 (q : Int)] rfl (reads_newN wr 3 1 [.int .i64 (q : Int)] 1 rfl) (by simp [Value.oneCell']) (by have := HM30.out; have := HMm.out; unfold maxLen; omega) (by have := HM30.out; have := HMm.out; omega) (by have := HBr.out.size; simp; omega) ?_; intro v2 w7 ho2 hg2 _; have HO2 : Hid (IntRow w7 w6.heap.size v2 (upTo M q ++ [(q : Int)])) := Lib.hid (by unfold IntRow; rw [List.length_append, List.map_append]; exact ho2); have HB2 := Lib.hid (introw_below HR.out HBr.out (Nat.le_refl _) hg2); clear ho2 hg2)
                go_roundw
                case rel => exact ⟨q + 1, by omega, by go_num, by rw [HU.out]; exact HO2, HB2⟩
                case measure => simp [intOf]; omega
            · obtain rfl : q = 30 := by omega
              have HE := Lib.hid HS.out.marked
              have HMk := Lib.hid (new_marked (n := w.heap.size) (p := p) (s := s) ⟨F, HMr.out.at_, HMr.out.fin⟩)
              have HMm := Lib.hid hm
              have HM30 := Lib.hid hm30
              have HBw := Lib.hid (HB.out.trans (HBr.out.mono HB.out.size))
              clear hm hm30 hlt
              go_wp2_with (first
                | (go_at_call 14; refine HI.out.mono ?_; rintro e w8 ⟨rfl, n8, rfl⟩)
                | (go_at_call 16; refine HMk.out.mono ?_; rintro e w7 ⟨A7, c7, rfl, r7, b7⟩; have hI := marks_ints c7 c5 r7 b7 HE.out HMm.out HR.out HM30.out; have HI := Lib.hid hI; have HB7 := Lib.hid (HBw.out.trans (b7.mono HBw.out.size)); clear hI r7 b7))
              go_ret
              exact ⟨rfl, below_drewN HB7.out n8⟩
        · have hi : (l.length : Int) ≤ (k : Int) := by omega
          clear hgo hlt
          go_upto_region 29 with fail
          obtain ⟨w6, rfl⟩ : ∃ wo : World, wo = wr := ⟨_, rfl⟩
          go_loopw [12, 13] (fun v i wr => ∃ q : Nat, q ≤ 30 ∧ i = .int .i64 q ∧ Hid (IntRow wr w6.heap.size v (upTo M q)) ∧ Hid (Below w6.heap.size w6 wr)) (fun _ i _ => 30 - (intOf i).toNat)
          case atStart => exact ⟨0, Nat.zero_le _, rfl, Lib.hid (introw_nil _ _), Lib.hid (Below.refl _ _)⟩
          case round =>
            obtain ⟨q, hq, rfl, HR, HBr⟩ := hrel
            obtain ⟨m, hm⟩ : ∃ m, (upTo M q).length = m := ⟨_, rfl⟩
            have hm30 : m ≤ 30 := by have := upTo_len M q; omega
            obtain ⟨A5, c5, rfl⟩ := HR.out.slice_n hm
            have HMr := Lib.hid (HM.out.below HBr.out)
            by_cases hlt : q < 30
            · have hqi : (q : Int) < 30 := by omega
              have hq0 : (0 : Int) ≤ (q : Int) := by omega
              have c2 := bools_at HMr.out.r2 (t := q) (by rw [HS.out.lm]; exact hlt)
              have HM30 := Lib.hid hm30
              have HMm := Lib.hid hm
              cases hb : M.getD q false
              · rw [hb] at c2
                have HU := Lib.hid (upTo_no hb)
                clear hb hm
                go_wp2_with fail
                go_roundw
                case rel => exact ⟨q + 1, by omega, by go_num, by rw [HU.out]; exact HR, HBr⟩
                case measure => simp [intOf]; omega
              · rw [hb] at c2
                have HU := Lib.hid (upTo_yes hb)
                clear hb hm
                go_wp2_with (at_builtin; refine wpList_append_any _ rfl (.tmp 143) (.tmp 145) 37 rfl w6.heap.size 3 i0 (.int .i64 0) 1 8 Try.underlying37 hi0 hz0 hz1 hz2 rfl (by decide) (.slice A5 m c5) (upTo M q).length _ rfl (World.ownsRow.alloc HR.out _) (wr.heap.size + 1) (some ⟨wr.heap.size, 0, none⟩) 1 1 [.int .i64 (q : Int)] rfl (reads_newN wr 3 1 [.int .i64 (q : Int)] 1 rfl) (by simp [Value.oneCell']) (by have := HM30.out; have := HMm.out; unfold maxLen; omega) (by have := HM30.out; have := HMm.out; omega) (by have := HBr.out.size; simp; omega) ?_; intro v2 w7 ho2 hg2 _; have HO2 : Hid (IntRow w7 w6.heap.size v2 (upTo M q ++ [(q : Int)])) := Lib.hid (by unfold IntRow; rw [List.length_append, List.map_append]; exact ho2); have HB2 := Lib.hid (introw_below HR.out HBr.out (Nat.le_refl _) hg2); clear ho2 hg2)
                go_roundw
                case rel => exact ⟨q + 1, by omega, by go_num, by rw [HU.out]; exact HO2, HB2⟩
                case measure => simp [intOf]; omega
            · obtain rfl : q = 30 := by omega
              have HE := Lib.hid HS.out.marked
              have HMk := Lib.hid (new_marked (n := w.heap.size) (p := p) (s := s) ⟨F, HMr.out.at_, HMr.out.fin⟩)
              have HMm := Lib.hid hm
              have HM30 := Lib.hid hm30
              have HBw := Lib.hid (HB.out.trans (HBr.out.mono HB.out.size))
              clear hm hm30 hlt
              go_wp2_with (first
                | (go_at_call 14; refine HI.out.mono ?_; rintro e w8 ⟨rfl, n8, rfl⟩)
                | (go_at_call 16; refine HMk.out.mono ?_; rintro e w7 ⟨A7, c7, rfl, r7, b7⟩; have hI := marks_ints c7 c5 r7 b7 HE.out HMm.out HR.out HM30.out; have HI := Lib.hid hI; have HB7 := Lib.hid (HBw.out.trans (b7.mono HBw.out.size)); clear hI r7 b7))
              go_ret
              exact ⟨rfl, below_drewN HB7.out n8⟩
  · have HMa := Lib.hid (marks_new k1 b1 b2 (g1 := w2.heap.size + 1) (g2 := w2.heap.size) (W := ((w2.alloc (.cells (Z.map Value.bool).toArray 4)).alloc (.cells (Z.map Value.bool).toArray 4)).drew) HBa.out (Nat.le_succ _) (Nat.le_refl _) (by omega) HX2.out HX1.out)
    rw [hz30] at HMa
    clear k1 b1 b2 HNew HX1 HX2 HBa hz30
    generalize ((w2.alloc (.cells (Z.map Value.bool).toArray 4)).alloc (.cells (Z.map Value.bool).toArray 4)).drew = W0 at *
    generalize w2.heap.size + 1 = g1 at *
    generalize w2.heap.size = g2 at *
    go_upto_region 6 with fail
    go_loopw [7, 8, 9, 10, 11] (fun i _ _ _ _ wr => ∃ (k : Nat) (s : LU) (F : Nat → Prop) (T M : List Bool), k ≤ l.length ∧ k ≤ 200 ∧ i = .int .i64 k ∧ Hid (MarkM w.heap.size wr p F s g1 g2 T M) ∧ Hid (MarkS s T M k) ∧ Hid (Below w.heap.size w wr)) (fun i _ _ _ _ _ => l.length - (intOf i).toNat)
    case atStart => exact ⟨0, _, _, _, _, Nat.zero_le _, Nat.zero_le _, rfl, HMa, HS0, HB0⟩
    case round =>
      clear HMa HS0 HB0
      obtain ⟨k, s, F, T, M, hk, hk1, rfl, HM, HS, HB⟩ := hrel
      by_cases hgo : k < l.length ∧ k < 200
      · obtain ⟨hlt, h80⟩ := hgo
        have hi : (k : Int) < (l.length : Int) := by omega
        have hi8 : (k : Int) < 200 := by omega
        have hik0 : (0 : Int) ≤ (k : Int) := by omega
        obtain ⟨b, o, rfl, hb, hc⟩ := HC.out (fun e => by rw [e] at hlt; exact absurd hlt (Nat.not_lt_zero _))
        obtain ⟨x0, x1⟩ := hc k hlt
        have y0 := (HB.out.cell (p := ⟨b, o + k * 2, none⟩) hb).trans x0
        have y1 := (HB.out.cell (p := ⟨b, o + k * 2 + 1, none⟩) hb).trans x1
        clear hc x1
        generalize l[k] = cl at *
        obtain ⟨kd, key⟩ := cl
        simp only at y0 y1 x0
        have HCk : Hid (∀ W, Below w.heap.size w W → W.cell? ⟨b, o + k * 2, none⟩ = some (.int .i64 kd)) := Lib.hid fun W hbw => (hbw.cell (p := ⟨b, o + k * 2, none⟩) hb).trans x0
        clear x0
        obtain ⟨t, ht, ht30⟩ : ∃ t : Nat, key % 30 = (t : Int) ∧ t < 30 := ⟨(key % 30).toNat, by omega, by omega⟩
        have HPk : Hid (Calls Try.prog 17 #[.int .i64 key, .int .i64 30] wr fun e w' => e = .returned (.int .i64 (t : Int)) ∧ wr = w') := Lib.hid (by
          have := pick_any key 30 wr ⟨by omega, by omega⟩
          rw [ht] at this
          exact this)
        have ht0 : (0 : Int) ≤ (t : Int) := by omega
        have ht1 : (t : Int) < 30 := by omega
        have HWt : Hid (Num (t : Int)) := Lib.hid ((by decide : ∀ t : Nat, t < 30 → (Lit.int .i64 (t : Int)).wf = true) t ht30)
        have hTl := HS.out.lt
        have hMl := HS.out.lm
        have HCell : Hid (∀ W F s', MarkM w.heap.size W p F s' g1 g2 T M → W.cell? ⟨g1, t, none⟩ = some (.bool (s.has (t : Int))) ∧ W.cell? ⟨g2, t, none⟩ = some (.bool (s.lit (t : Int))) ∧ W.frozen? ⟨g1, t, none⟩ = false ∧ W.frozen? ⟨g2, t, none⟩ = false) := Lib.hid fun W F s' h => by
          refine ⟨?_, ?_, h.r1.frozen t, h.r2.frozen t⟩
          · rw [← HS.out.has t ht30]; exact bools_at h.r1 (by omega)
          · rw [← HS.out.lit t ht30]; exact bools_at h.r2 (by omega)
        obtain ⟨c1, c2, f1, f2⟩ := HCell.out wr F s HM.out
        have HN1 := Lib.hid HM.out.n1
        have HN2 := Lib.hid HM.out.n2
        have hg12 := HM.out.ne
        have HLH : Hid (s.lit (t : Int) = true → s.has (t : Int) = true) := Lib.hid fun e => LU.lit_has e
        clear ht hTl hMl
        by_cases h2 : kd = 2
        · subst h2
          have hA := at_add HM.out.at_ (t : Int) HWt.out
          rw [HS.out.addV (by omega)] at hA
          have HSA := Lib.hid (HS.out.add (by omega) ht30)
          cases hh : s.has (t : Int)
          · have hl : s.lit (t : Int) = false := by
              cases hl : s.lit (t : Int) with
              | false => rfl
              | true => have := HLH.out hl; rw [hh] at this; cases this
            rw [hh] at HCell HSA c1
            rw [hl] at HCell HSA c2
            rw [hh] at hA
            rw [if_neg (by decide)] at hA
            have HA := Lib.hid hA
            clear hA hh hl HLH
            go_wp2_with (first
              | (go_at_call 17; refine HPk.out.mono ?_; rintro e w4 ⟨rfl, rfl⟩)
              | (go_at_call 19; refine HA.out.mono ?_; rintro e w5 ⟨rfl, ha, ho⟩; have HM5 := Lib.hid (HM.out.step HB.out.size ha ho); have HB5 := Lib.hid (HM.out.bel HB.out.size HB.out ho); obtain ⟨d1, d2, e1, e2⟩ := HCell.out w5 _ _ HM5.out; have d1' : (w5.setCell ⟨g2, t, none⟩ (.bool false)).cell? ⟨g1, t, none⟩ = some (.bool false) := (cell_far _ _ fun e => absurd e.symm hg12).trans d1; have HMn := Lib.hid ((HM5.out.set2 t false).set1 t true); have HSn := HSA; have HBn := Lib.hid ((HB5.out.setCell (p := ⟨g2, t, none⟩) HN2.out (.bool false)).setCell (p := ⟨g1, t, none⟩) HN1.out (.bool true)); clear ha ho))
            go_roundw
            case rel => exact ⟨k + 1, _, _, _, _, by omega, by omega, by go_num, HMn, HSn, HBn⟩
            case measure => simp [intOf]; omega
          · cases hl : s.lit (t : Int)
            · rw [hh] at HCell HSA c1
              rw [hl] at HCell HSA c2
              rw [hh] at hA
              rw [if_pos rfl] at hA
              have HA := Lib.hid hA
              clear hA hh hl HLH
              go_wp2_with (first
                | (go_at_call 17; refine HPk.out.mono ?_; rintro e w4 ⟨rfl, rfl⟩)
                | (go_at_call 19; refine HA.out.mono ?_; rintro e w5 ⟨rfl, ha, ho⟩; have HM5 := Lib.hid (HM.out.step HB.out.size ha ho); have HB5 := Lib.hid (HM.out.bel HB.out.size HB.out ho); obtain ⟨d1, d2, e1, e2⟩ := HCell.out w5 _ _ HM5.out; have d1' : (w5.setCell ⟨g2, t, none⟩ (.bool false)).cell? ⟨g1, t, none⟩ = some (.bool true) := (cell_far _ _ fun e => absurd e.symm hg12).trans d1; have HMn := Lib.hid ((HM5.out.set2 t false).set1 t true); have HSn := HSA; have HBn := Lib.hid ((HB5.out.setCell (p := ⟨g2, t, none⟩) HN2.out (.bool false)).setCell (p := ⟨g1, t, none⟩) HN1.out (.bool true)); clear ha ho))
              go_roundw
              case rel => exact ⟨k + 1, _, _, _, _, by omega, by omega, by go_num, HMn, HSn, HBn⟩
              case measure => simp [intOf]; omega
            · rw [hh] at HCell HSA c1
              rw [hl] at HCell HSA c2
              rw [hh] at hA
              rw [if_pos rfl] at hA
              have HA := Lib.hid hA
              clear hA hh hl HLH
              go_wp2_with (first
                | (go_at_call 17; refine HPk.out.mono ?_; rintro e w4 ⟨rfl, rfl⟩)
                | (go_at_call 19; refine HA.out.mono ?_; rintro e w5 ⟨rfl, ha, ho⟩; have HM5 := Lib.hid (HM.out.step HB.out.size ha ho); have HB5 := Lib.hid (HM.out.bel HB.out.size HB.out ho); obtain ⟨d1, d2, e1, e2⟩ := HCell.out w5 _ _ HM5.out; have d1' : (w5.setCell ⟨g2, t, none⟩ (.bool true)).cell? ⟨g1, t, none⟩ = some (.bool true) := (cell_far _ _ fun e => absurd e.symm hg12).trans d1; have HMn := Lib.hid ((HM5.out.set2 t true).set1 t true); have HSn := HSA; have HBn := Lib.hid ((HB5.out.setCell (p := ⟨g2, t, none⟩) HN2.out (.bool true)).setCell (p := ⟨g1, t, none⟩) HN1.out (.bool true)); clear ha ho))
              go_roundw
              case rel => exact ⟨k + 1, _, _, _, _, by omega, by omega, by go_num, HMn, HSn, HBn⟩
              case measure => simp [intOf]; omega
        by_cases h3 : kd = 3
        · subst h3
          have hA := at_drop (HM.out.below (Below.refl _ wr).drew).at_ (t : Int) HWt.out
          rw [drop_says HS.out.free] at hA
          have HSn := Lib.hid (HS.out.drop ht30)
          generalize s.has (t : Int) = tb at *
          generalize s.lit (t : Int) = mb at *
          have HA := Lib.hid hA
          clear hA
          go_upto_region 19 with (go_at_call 17; refine HPk.out.mono ?_; rintro e w4 ⟨rfl, rfl⟩)
          go_region_held3 (fun w' => w'.cell? ⟨g1, t, none⟩ = some (.bool tb))
            (first
              | exact c1
              | exact d1
              | go_keep)
            (first
              | (go_at_call 22; refine HA.out.mono ?_; rintro e w5 ⟨rfl, ha, ho⟩; have HM5 := Lib.hid ((HM.out.below (Below.refl _ wr).drew).step HB.out.size ha ho); have HB5 := Lib.hid ((HM.out.below (Below.refl _ wr).drew).bel HB.out.size HB.out.drew ho); obtain ⟨d1, d2, e1, e2⟩ := HCell.out w5 _ _ HM5.out)
              | fail)
          all_goals
            have d2' : (w5.setCell ⟨g1, t, none⟩ (.bool false)).cell? ⟨g2, t, none⟩ = some (.bool mb) := (cell_far _ _ fun e => absurd e hg12).trans d2
            have HMn := Lib.hid ((HM5.out.set1 t false).set2 t false)
            have HBn := Lib.hid ((HB5.out.setCell (p := ⟨g1, t, none⟩) HN1.out (.bool false)).setCell (p := ⟨g2, t, none⟩) HN2.out (.bool false))
            clear ha ho
            go_wp2_with fail
            go_roundw
            case rel => exact ⟨k + 1, _, _, _, _, by omega, by omega, by go_num, HMn, HSn, HBn⟩
            case measure => simp [intOf]; omega
        by_cases h6 : kd = 6
        · subst h6
          have hA := at_mark (HM.out.below (Below.refl _ wr).drew).at_ (t : Int) true HWt.out
          rw [show (s.mark (t : Int) true).2 = s.has (t : Int) from rfl] at hA
          have HSA := Lib.hid (HS.out.mark ht30 true)
          generalize s.has (t : Int) = tb at *
          generalize s.lit (t : Int) = mb at *
          have HA := Lib.hid hA
          clear hA
          go_upto_region 24 with (go_at_call 17; refine HPk.out.mono ?_; rintro e w4 ⟨rfl, rfl⟩)
          go_region_held3 (fun w' => w'.cell? ⟨g1, t, none⟩ = some (.bool tb) ∧ w'.cell? ⟨b, o + k * 2, none⟩ = some (.int .i64 6))
            (first
              | exact ⟨c1, y0⟩
              | exact ⟨d1, d3⟩
              | go_keep)
            (first
              | (go_at_call 24; refine HA.out.mono ?_; rintro e w5 ⟨rfl, ha, ho⟩; have HM5 := Lib.hid ((HM.out.below (Below.refl _ wr).drew).step HB.out.size ha ho); have HB5 := Lib.hid ((HM.out.below (Below.refl _ wr).drew).bel HB.out.size HB.out.drew ho); obtain ⟨d1, d2, e1, e2⟩ := HCell.out w5 _ _ HM5.out; have d3 := HCk.out w5 HB5.out)
              | fail)
          all_goals
            clear ha ho
            cases tb
            · have HMn := Lib.hid (HM5.out.set2 t (false && true))
              have HSn := HSA
              have HBn := Lib.hid (HB5.out.setCell (p := ⟨g2, t, none⟩) HN2.out (.bool (false && true)))
              rw [show (false && true) = false from rfl] at HMn HSn HBn
              clear HSA
              go_wp2_with fail
              go_roundw
              case rel => exact ⟨k + 1, _, _, _, _, by omega, by omega, by go_num, HMn, HSn, HBn⟩
              case measure => simp [intOf]; omega
            · have HMn := Lib.hid (HM5.out.set2 t (true && true))
              have HSn := HSA
              have HBn := Lib.hid (HB5.out.setCell (p := ⟨g2, t, none⟩) HN2.out (.bool (true && true)))
              rw [show (true && true) = true from rfl] at HMn HSn HBn
              clear HSA
              go_wp2_with fail
              go_roundw
              case rel => exact ⟨k + 1, _, _, _, _, by omega, by omega, by go_num, HMn, HSn, HBn⟩
              case measure => simp [intOf]; omega
        by_cases h7 : kd = 7
        · subst h7
          have hA := at_mark (HM.out.below (Below.refl _ wr).drew).at_ (t : Int) false HWt.out
          rw [show (s.mark (t : Int) false).2 = s.has (t : Int) from rfl] at hA
          have HSA := Lib.hid (HS.out.mark ht30 false)
          generalize s.has (t : Int) = tb at *
          generalize s.lit (t : Int) = mb at *
          have HA := Lib.hid hA
          clear hA
          go_upto_region 24 with (go_at_call 17; refine HPk.out.mono ?_; rintro e w4 ⟨rfl, rfl⟩)
          go_region_held3 (fun w' => w'.cell? ⟨g1, t, none⟩ = some (.bool tb) ∧ w'.cell? ⟨b, o + k * 2, none⟩ = some (.int .i64 7))
            (first
              | exact ⟨c1, y0⟩
              | exact ⟨d1, d3⟩
              | go_keep)
            (first
              | (go_at_call 24; refine HA.out.mono ?_; rintro e w5 ⟨rfl, ha, ho⟩; have HM5 := Lib.hid ((HM.out.below (Below.refl _ wr).drew).step HB.out.size ha ho); have HB5 := Lib.hid ((HM.out.below (Below.refl _ wr).drew).bel HB.out.size HB.out.drew ho); obtain ⟨d1, d2, e1, e2⟩ := HCell.out w5 _ _ HM5.out; have d3 := HCk.out w5 HB5.out)
              | fail)
          all_goals
            clear ha ho
            cases tb
            · have HMn := Lib.hid (HM5.out.set2 t (false && false))
              have HSn := HSA
              have HBn := Lib.hid (HB5.out.setCell (p := ⟨g2, t, none⟩) HN2.out (.bool (false && false)))
              rw [show (false && false) = false from rfl] at HMn HSn HBn
              clear HSA
              go_wp2_with fail
              go_roundw
              case rel => exact ⟨k + 1, _, _, _, _, by omega, by omega, by go_num, HMn, HSn, HBn⟩
              case measure => simp [intOf]; omega
            · have HMn := Lib.hid (HM5.out.set2 t (true && false))
              have HSn := HSA
              have HBn := Lib.hid (HB5.out.setCell (p := ⟨g2, t, none⟩) HN2.out (.bool (true && false)))
              rw [show (true && false) = false from rfl] at HMn HSn HBn
              clear HSA
              go_wp2_with fail
              go_roundw
              case rel => exact ⟨k + 1, _, _, _, _, by omega, by omega, by go_num, HMn, HSn, HBn⟩
              case measure => simp [intOf]; omega
        have q2 : (kd == 2) = false := by simp [h2]
        have q3 : (kd == 3) = false := by simp [h3]
        have q6 : (kd == 6) = false := by simp [h6]
        have q7 : (kd == 7) = false := by simp [h7]
        have hA := at_use (HM.out.below (Below.refl _ wr).drew).at_ (t : Int) HWt.out
        rw [use_says] at hA
        have HSn := Lib.hid (HS.out.use (t : Int))
        generalize s.has (t : Int) = tb at *
        generalize s.lit (t : Int) = mb at *
        have HA := Lib.hid hA
        clear hA
        go_upto_region 10 with (go_at_call 17; refine HPk.out.mono ?_; rintro e w4 ⟨rfl, rfl⟩)
        go_region_held3 (fun w' => w'.cell? ⟨g1, t, none⟩ = some (.bool tb))
          (first
            | exact c1
            | exact d1
            | go_keep)
          (first
            | (go_at_call 18; refine HA.out.mono ?_; rintro e w5 ⟨rfl, ha, ho⟩; have HMn := Lib.hid ((HM.out.below (Below.refl _ wr).drew).step HB.out.size ha ho); have HBn := Lib.hid ((HM.out.below (Below.refl _ wr).drew).bel HB.out.size HB.out.drew ho); obtain ⟨d1, d2, e1, e2⟩ := HCell.out w5 _ _ HMn.out)
            | fail)
        all_goals
          clear ha ho
          go_wp2_with fail
          go_roundw
          case rel => exact ⟨k + 1, _, _, _, _, by omega, by omega, by go_num, HMn, HSn, HBn⟩
          case measure => simp [intOf]; omega
      · have HEnd := Lib.hid (And.intro hk hk1)
        by_cases hlt : k < l.length
        · have hi : (k : Int) < (l.length : Int) := by omega
          have hi8 : (200 : Int) ≤ (k : Int) := by omega
          clear hgo hlt
          go_upto_region 29 with fail
          obtain ⟨w6, rfl⟩ : ∃ wo : World, wo = wr := ⟨_, rfl⟩
          go_loopw [12, 13] (fun v i wr => ∃ q : Nat, q ≤ 30 ∧ i = .int .i64 q ∧ Hid (IntRow wr w6.heap.size v (upTo M q)) ∧ Hid (Below w6.heap.size w6 wr)) (fun _ i _ => 30 - (intOf i).toNat)
          case atStart => exact ⟨0, Nat.zero_le _, rfl, Lib.hid (introw_nil _ _), Lib.hid (Below.refl _ _)⟩
          case round =>
            obtain ⟨q, hq, rfl, HR, HBr⟩ := hrel
            obtain ⟨m, hm⟩ : ∃ m, (upTo M q).length = m := ⟨_, rfl⟩
            have hm30 : m ≤ 30 := by have := upTo_len M q; omega
            obtain ⟨A5, c5, rfl⟩ := HR.out.slice_n hm
            have HMr := Lib.hid (HM.out.below HBr.out)
            by_cases hlt : q < 30
            · have hqi : (q : Int) < 30 := by omega
              have hq0 : (0 : Int) ≤ (q : Int) := by omega
              have c2 := bools_at HMr.out.r2 (t := q) (by rw [HS.out.lm]; exact hlt)
              have HM30 := Lib.hid hm30
              have HMm := Lib.hid hm
              cases hb : M.getD q false
              · rw [hb] at c2
                have HU := Lib.hid (upTo_no hb)
                clear hb hm
                go_wp2_with fail
                go_roundw
                case rel => exact ⟨q + 1, by omega, by go_num, by rw [HU.out]; exact HR, HBr⟩
                case measure => simp [intOf]; omega
              · rw [hb] at c2
                have HU := Lib.hid (upTo_yes hb)
                clear hb hm
                go_wp2_with (at_builtin; refine wpList_append_any _ rfl (.tmp 143) (.tmp 145) 37 rfl w6.heap.size 3 i0 (.int .i64 0) 1 8 Try.underlying37 hi0 hz0 hz1 hz2 rfl (by decide) (.slice A5 m c5) (upTo M q).length _ rfl (World.ownsRow.alloc HR.out _) (wr.heap.size + 1) (some ⟨wr.heap.size, 0, none⟩) 1 1 [.int .i64 (q : Int)] rfl (reads_newN wr 3 1 [.int .i64 (q : Int)] 1 rfl) (by simp [Value.oneCell']) (by have := HM30.out; have := HMm.out; unfold maxLen; omega) (by have := HM30.out; have := HMm.out; omega) (by have := HBr.out.size; simp; omega) ?_; intro v2 w7 ho2 hg2 _; have HO2 : Hid (IntRow w7 w6.heap.size v2 (upTo M q ++ [(q : Int)])) := Lib.hid (by unfold IntRow; rw [List.length_append, List.map_append]; exact ho2); have HB2 := Lib.hid (introw_below HR.out HBr.out (Nat.le_refl _) hg2); clear ho2 hg2)
                go_roundw
                case rel => exact ⟨q + 1, by omega, by go_num, by rw [HU.out]; exact HO2, HB2⟩
                case measure => simp [intOf]; omega
            · obtain rfl : q = 30 := by omega
              have HE := Lib.hid HS.out.marked
              have HMk := Lib.hid (new_marked (n := w.heap.size) (p := p) (s := s) ⟨F, HMr.out.at_, HMr.out.fin⟩)
              have HMm := Lib.hid hm
              have HM30 := Lib.hid hm30
              have HBw := Lib.hid (HB.out.trans (HBr.out.mono HB.out.size))
              clear hm hm30 hlt
              go_wp2_with (first
                | (go_at_call 14; refine HI.out.mono ?_; rintro e w8 ⟨rfl, n8, rfl⟩)
                | (go_at_call 16; refine HMk.out.mono ?_; rintro e w7 ⟨A7, c7, rfl, r7, b7⟩; have hI := marks_ints c7 c5 r7 b7 HE.out HMm.out HR.out HM30.out; have HI := Lib.hid hI; have HB7 := Lib.hid (HBw.out.trans (b7.mono HBw.out.size)); clear hI r7 b7))
              go_ret
              exact ⟨rfl, below_drewN HB7.out n8⟩
        · have hi : (l.length : Int) ≤ (k : Int) := by omega
          clear hgo hlt
          go_upto_region 29 with fail
          obtain ⟨w6, rfl⟩ : ∃ wo : World, wo = wr := ⟨_, rfl⟩
          go_loopw [12, 13] (fun v i wr => ∃ q : Nat, q ≤ 30 ∧ i = .int .i64 q ∧ Hid (IntRow wr w6.heap.size v (upTo M q)) ∧ Hid (Below w6.heap.size w6 wr)) (fun _ i _ => 30 - (intOf i).toNat)
          case atStart => exact ⟨0, Nat.zero_le _, rfl, Lib.hid (introw_nil _ _), Lib.hid (Below.refl _ _)⟩
          case round =>
            obtain ⟨q, hq, rfl, HR, HBr⟩ := hrel
            obtain ⟨m, hm⟩ : ∃ m, (upTo M q).length = m := ⟨_, rfl⟩
            have hm30 : m ≤ 30 := by have := upTo_len M q; omega
            obtain ⟨A5, c5, rfl⟩ := HR.out.slice_n hm
            have HMr := Lib.hid (HM.out.below HBr.out)
            by_cases hlt : q < 30
            · have hqi : (q : Int) < 30 := by omega
              have hq0 : (0 : Int) ≤ (q : Int) := by omega
              have c2 := bools_at HMr.out.r2 (t := q) (by rw [HS.out.lm]; exact hlt)
              have HM30 := Lib.hid hm30
              have HMm := Lib.hid hm
              cases hb : M.getD q false
              · rw [hb] at c2
                have HU := Lib.hid (upTo_no hb)
                clear hb hm
                go_wp2_with fail
                go_roundw
                case rel => exact ⟨q + 1, by omega, by go_num, by rw [HU.out]; exact HR, HBr⟩
                case measure => simp [intOf]; omega
              · rw [hb] at c2
                have HU := Lib.hid (upTo_yes hb)
                clear hb hm
                go_wp2_with (at_builtin; refine wpList_append_any _ rfl (.tmp 143) (.tmp 145) 37 rfl w6.heap.size 3 i0 (.int .i64 0) 1 8 Try.underlying37 hi0 hz0 hz1 hz2 rfl (by decide) (.slice A5 m c5) (upTo M q).length _ rfl (World.ownsRow.alloc HR.out _) (wr.heap.size + 1) (some ⟨wr.heap.size, 0, none⟩) 1 1 [.int .i64 (q : Int)] rfl (reads_newN wr 3 1 [.int .i64 (q : Int)] 1 rfl) (by simp [Value.oneCell']) (by have := HM30.out; have := HMm.out; unfold maxLen; omega) (by have := HM30.out; have := HMm.out; omega) (by have := HBr.out.size; simp; omega) ?_; intro v2 w7 ho2 hg2 _; have HO2 : Hid (IntRow w7 w6.heap.size v2 (upTo M q ++ [(q : Int)])) := Lib.hid (by unfold IntRow; rw [List.length_append, List.map_append]; exact ho2); have HB2 := Lib.hid (introw_below HR.out HBr.out (Nat.le_refl _) hg2); clear ho2 hg2)
                go_roundw
                case rel => exact ⟨q + 1, by omega, by go_num, by rw [HU.out]; exact HO2, HB2⟩
                case measure => simp [intOf]; omega
            · obtain rfl : q = 30 := by omega
              have HE := Lib.hid HS.out.marked
              have HMk := Lib.hid (new_marked (n := w.heap.size) (p := p) (s := s) ⟨F, HMr.out.at_, HMr.out.fin⟩)
              have HMm := Lib.hid hm
              have HM30 := Lib.hid hm30
              have HBw := Lib.hid (HB.out.trans (HBr.out.mono HB.out.size))
              clear hm hm30 hlt
              go_wp2_with (first
                | (go_at_call 14; refine HI.out.mono ?_; rintro e w8 ⟨rfl, n8, rfl⟩)
                | (go_at_call 16; refine HMk.out.mono ?_; rintro e w7 ⟨A7, c7, rfl, r7, b7⟩; have hI := marks_ints c7 c5 r7 b7 HE.out HMm.out HR.out HM30.out; have HI := Lib.hid hI; have HB7 := Lib.hid (HBw.out.trans (b7.mono HBw.out.size)); clear hI r7 b7))
              go_ret
              exact ⟨rfl, below_drewN HB7.out n8⟩

set_option maxRecDepth 100000 in
theorem lifted (os : Os) (started : os.Started) (H : Type) (enc : TypeId × Value → H) :
    ReturnsInHanded {} Try.checked os 7 .any (Rows.lruMarksSpec.pre6 enc Try.prog Try.f7 Rows.lruMarksRow.domain false) (Rows.lruMarksSpec.post enc Try.prog Try.f7 false true false false) := by
  refine returnsInHanded_of_change_sized (C := Try.checked) own started (by kernel_rfl) Try.func7
    (ChangeSpec.witness6 (enc := enc) (C := Try.checked) false ⟨#[], #[.slice none 0 0], []⟩ 8 (by kernel_rfl) (by kernel_rfl) (by kernel_rfl) (by kernel_rfl)) ?_
  intro W base args ds gs before hval0 hW hcnd hsz0 _
  have hsz : (DataW.weightsEach Try.prog (Try.f7.params.toList ++ Rows.lruMarksSpec.plain.varTypes Try.prog) (ds ++ gs)).all (· ≤ reachBytes) = true := hsz0
  have hval : ∀ (j : Nat) t v, Try.f7.params[j]? = some t → args[j]? = some v → Value.okWide Try.prog W .any base t v := hval0
  have hW' := hW
  obtain ⟨p, q, hA0, hV, rfl, hfz, hnd⟩ := hW
  have hA : DataW.TrodAll enc Try.prog W 0 (fun _ => true) true Try.f7.params.toList args.toList ds p := hA0
  rw [Try.params7] at hA hval hsz
  obtain ⟨v0, vs0, d0, ds0, p0, q0, hargs, rfl, rfl, h0, r0⟩ := trodAll_cons hA
  obtain ⟨rfl, rfl, rfl⟩ := trodAll_nil r0
  obtain rfl : args = #[v0] := by cases args; simp_all
  obtain ⟨rfl, rfl⟩ := trodVars_none hV
  have k0 := h0
  have lt0 : ∀ x ∈ p0, x.block < W.heap.size := by obtain ⟨m, hm⟩ := k0; exact DataW.trod_lt m _ _ _ hm
  obtain ⟨A0, l0, c0, rfl, hll0, hcl0, hnl0⟩ := open_lcalls Try.underlying22 Try.underlying34 (by kernel_rfl) (by kernel_rfl) Try.underlying3 Try.underlying3 (hval 0 22 v0 rfl rfl) h0
  clear hA0 hval0 hsz0
  refine (walk A0 l0 c0 W hll0 hcl0 hnl0).mono fun e W' ⟨he, bel⟩ => ?_
  subst he
  exact ⟨_, rfl, _, _, _, [], _, [], hW', trodAll_mk1 (shut_bool Try.underlying4 _), (trodAll_cons_mk (Below.trod laidOut (by kernel_rfl) (of_decide_eq_true (by kernel_rfl)) k0 bel lt0) trodAll_mk0), rfl, bel.frame _, fun h => by cases h⟩

theorem over : Rows.lruMarksRow.holds Try.pinned (OpenSpec.ofChange Rows.lruMarksSpec) :=
  OpenClaim.holds_of_wide 7 Try.f7 rfl rfl rfl rfl rfl rfl rfl ⟨rfl, rfl, rfl, rfl, rfl⟩ rfl rfl rfl rfl rfl (by kernel_rfl) Try.func7 (by kernel_rfl)
    (of_decide_eq_true (by kernel_rfl)) (by unfold Func.isWrapper; first | (rw [if_pos (by decide +kernel)]; kernel_rfl) | (rw [if_neg (by decide +kernel)]; exact ⟨rfl, rfl⟩))
    (fun os started H enc _ => lifted os started H enc)

/-- The statement. -/
theorem proved : Rows.LruMarksSaid := over
#print axioms proved
end Go.Proofs.Ytopdfhedifcalaa.lruMarks
