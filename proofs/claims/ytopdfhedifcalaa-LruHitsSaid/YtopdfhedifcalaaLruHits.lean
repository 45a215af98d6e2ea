/- The statement LruHits: the last unlike keys are at hand. No conditions. -/
import Derived.Test.YtopdfhedifcalaaRows
import Derived.Test.YtopdfhedifcalaaOpen
import Derived.Test.YtopdfhedifcalaaLhA
import Derived.Test.YtopdfhedifcalaaLqE
import Derived.WalkKit
import Derived.ProofKit
import Derived.OpenShut
import Derived.ShutString
import Derived.ChangeOld
import Derived.Below
import Derived.SizedLaws
import Derived.JoinedCond
namespace Go.Proofs.Ytopdfhedifcalaa.lruHits
open Go.ChangeShapes Go.WideShapes Go.ChangeAt Go.RowKit
open Go.ChangeMaps (open_string shut_string)
set_option linter.unusedVariables false

theorem own : ownKnob Try.prog.godebug = none := by kernel_rfl
theorem laidOut : laidOutB Try.prog = true := by kernel_rfl

set_option maxRecDepth 100000 in
set_option maxHeartbeats 8000000 in
theorem walk (cp : Int) (A : Option Addr) (l : List Int) (c : Nat) (w : World) (hcp : (Lit.int .i64 cp).wf = true) (hll : l.length ≤ 9223372036854775807) (hcl : IntsIn w A l) (hnl : ∀ x ∈ l, Num x) :
    Calls Try.prog 4 #[.int .i64 cp, .slice A l.length c] w fun e w' => e = .returned (.bool true) ∧ Below w.heap.size w w' := by
  have HAw := Lib.hid awake_any
  clear hcp
  obtain ⟨n, hn, hn20⟩ : ∃ n : Nat, cp % 20 = (n : Int) ∧ n < 20 := ⟨(cp % 20).toNat, by omega, by omega⟩
  have HPk : Hid (Calls Try.prog 17 #[.int .i64 cp, .int .i64 20] w fun e w' => e = .returned (.int .i64 (n : Int)) ∧ w = w') := Lib.hid (by
    have := pick_any cp 20 w ⟨by omega, by omega⟩
    rw [hn] at this
    exact this)
  have HNew : Hid (Calls Try.prog 8 #[.int .i64 (1 + (n : Int))] w (MadeL w ⟨1 + n, []⟩)) := Lib.hid (by
    have := lru_new_ok (1 + n) w (by omega) (by omega)
    rw [show ((1 + n : Nat) : Int) = 1 + (n : Int) from by omega] at this
    exact this)
  have HC := Lib.hid hcl
  have HNl := Lib.hid hnl
  have HLl := Lib.hid hll
  have hn0 : (0 : Int) ≤ (n : Int) := by omega
  have hn1 : (n : Int) < 20 := by omega
  clear hcl hnl hll hn
  obtain ⟨i0, hi0, hz0, hz1, hz2⟩ := info_parts intinfo
  go_enter Try.func4, Try.ntmps4
  go_upto_region 6 with (first
    | (go_at_call 17; refine HPk.out.mono ?_; rintro e w1 ⟨rfl, rfl⟩)
    | (go_at_call 8; refine HNew.out.mono ?_; rintro e w1 ⟨p, rfl, k1, b1, -, -⟩)
    | (go_at_call 9; refine (HAw.out _).mono ?_; rintro e w2 ⟨rfl, b2⟩))
  have HM0 : Hid (HitM w.heap.size w2 p (From w w1) ⟨1 + n, []⟩ l (1 + n) 0) := Lib.hid ⟨k1.below b2, fun k hk => ⟨hk.1, Nat.lt_of_lt_of_le hk.2 b2.size⟩, by rw [List.take_zero]; exact LU.hits_new _, rfl⟩
  have HB0 : Hid (Below w.heap.size w w2) := Lib.hid (b1.trans (b2.mono b1.size))
  clear k1 b1 b2 HNew HPk
  go_loopw [7, 8, 9, 10, 11, 12, 13, 14, 15, 16] (fun i _ _ _ _ _ _ _ _ _ wr => ∃ (k : Nat) (s : LU) (F : Nat → Prop), k ≤ l.length ∧ k ≤ 120 ∧ i = .int .i64 k ∧ Hid (HitM w.heap.size wr p F s l (1 + n) k) ∧ Hid (Below w.heap.size w wr)) (fun i _ _ _ _ _ _ _ _ _ _ => l.length - (intOf i).toNat)
  case atStart => exact ⟨0, _, _, Nat.zero_le _, Nat.zero_le _, rfl, HM0, HB0⟩
  case round =>
    obtain ⟨k, s, F, hk, hk1, rfl, HM, HB⟩ := hrel
    by_cases hlt : k < l.length
    · by_cases h80 : k < 120
      · have hi : (k : Int) < (l.length : Int) := by omega
        have hi8 : (k : Int) < 120 := by omega
        have hik0 : (0 : Int) ≤ (k : Int) := by omega
        obtain ⟨b, o, rfl, hb, hc⟩ := HC.out (fun e => by rw [e] at hlt; exact absurd hlt (Nat.not_lt_zero _))
        obtain ⟨w3, rfl⟩ : ∃ wo : World, wo = wr := ⟨_, rfl⟩
        have hb3 : b < w3.heap.size := Nat.lt_of_lt_of_le hb HB.out.size
        have HCl : Hid (∀ wr j (hj : j < l.length), Below w3.heap.size w3 wr → wr.cell? ⟨b, o + j, none⟩ = some (.int .i64 l[j])) := Lib.hid fun wr j hj hbw => (hbw.cell (p := ⟨b, o + j, none⟩) hb3).trans ((HB.out.cell (p := ⟨b, o + j, none⟩) hb).trans (hc j hj))
        have HCw := Lib.hid hc
        clear hc
        go_upto_region 10 with fail
        go_loopw [8, 9, 10, 11] (fun v k9 _ _ wr => ∃ q : Nat, q ≤ k ∧ k9 = .int .i64 ((q : Int) - 1) ∧ Hid (IntRow wr w3.heap.size v (LU.lastK l (1 + n) k q)) ∧ Hid (Below w3.heap.size w3 wr)) (fun _ k9 _ _ _ => (intOf k9 + 1).toNat)
        case atStart => exact ⟨k, Nat.le_refl _, rfl, by rw [LU.lastK_start]; exact introw_nil _ _, Lib.hid (Below.refl _ _)⟩
        case round =>
          obtain ⟨q, hqk, hk9, HR, HBr⟩ := hrel
          have hml := LU.lastK_len l (1 + n) k q
          obtain ⟨m, hm⟩ : ∃ m, (LU.lastK l (1 + n) k q).length = m := ⟨_, rfl⟩
          obtain ⟨A5, c5, rfl⟩ := HR.out.slice_n hm
          by_cases hgo : 0 < q ∧ m < 1 + n
          · obtain ⟨hq0, hmn⟩ := hgo
            obtain ⟨q, rfl⟩ : ∃ q', q = q' + 1 := ⟨q - 1, by omega⟩
            have hk9' := hk9.trans (show Value.int .i64 (((q + 1 : Nat) : Int) - 1) = .int .i64 (q : Int) by congr 1; omega)
            clear hk9
            subst hk9'
            have HStep := Lib.hid (LU.lastK_step (l := l) (cap := 1 + n) (show q < k by omega) (Nat.le_of_lt hlt))
            have HCx := Lib.hid (fun wr hbw => HCl.out wr q (by omega) hbw)
            have hqi : (q : Int) < (l.length : Int) := by omega
            have hq0' : (0 : Int) ≤ (q : Int) := by omega
            have hmn' : (m : Int) < 1 + (n : Int) := by omega
            generalize LU.lastK l (1 + n) k (q + 1) = L at *
            generalize l[q] = x at *
            have HM_ := Lib.hid hm
            clear hml
            go_upto_region 14 with fail
            obtain ⟨w4, rfl⟩ : ∃ wo : World, wo = wr := ⟨_, rfl⟩
            go_loopw [10, 11] (fun met j wr => ∃ (t : Nat) (g : Bool), t ≤ m ∧ j = .int .i64 t ∧ met = .bool g ∧ Hid (g = decide (x ∈ L.take t)) ∧ Hid (IntRow wr w3.heap.size (.slice A5 m c5) L) ∧ Hid (Below w3.heap.size w3 wr)) (fun _ j _ => m - (intOf j).toNat)
            case atStart => exact ⟨0, false, Nat.zero_le _, rfl, rfl, Lib.hid (by simp), HR, HBr⟩
            case round =>
              clear HR HBr
              obtain ⟨t, g, htm, rfl, rfl, HG, HR, HBr⟩ := hrel
              by_cases htl : t < m
              · obtain ⟨g5, rfl, z1, hmc, hcm⟩ := row_at HR.out hm htl
                have z2 := HCx.out wr HBr.out
                have HY : Hid (∃ y, L[t]'(by omega) = y) := Lib.hid ⟨_, rfl⟩
                obtain ⟨y, hy⟩ := HY.out
                rw [hy] at z1
                unfold maxLen at hcm
                have hti : (t : Int) < (m : Int) := by omega
                have ht0 : (0 : Int) ≤ (t : Int) := by omega
                cases g with
                | true =>
                  have HN := Lib.hid (met_yes HG.out rfl)
                  clear hy HY
                  go_wp2_with fail
                  go_quiet (fail)
                  go_wp2_with fail
                  go_roundw
                  case rel => exact ⟨t + 1, true, by omega, by go_num, rfl, HN, HR, Lib.hid (below_drewN HBr.out nq)⟩
                  case measure => simp [intOf]; omega
                | false =>
                  by_cases he : y = x
                  · have hyx : (y == x) = true := by simp [he]
                    have HN := Lib.hid (met_now (by omega) hy he)
                    clear hy HY he
                    go_wp2_with fail
                    go_quiet (fail)
                    go_wp2_with fail
                    go_roundw
                    case rel => exact ⟨t + 1, true, by omega, by go_num, rfl, HN, HR, Lib.hid (below_drewN HBr.out nq)⟩
                    case measure => simp [intOf]; omega
                  · have hyx : (y == x) = false := by simp [he]
                    have HN := Lib.hid (met_no (by omega) HG.out rfl hy he)
                    clear hy HY he
                    go_wp2_with fail
                    go_quiet (fail)
                    go_wp2_with fail
                    go_roundw
                    case rel => exact ⟨t + 1, false, by omega, by go_num, rfl, HN, HR, Lib.hid (below_drewN HBr.out nq)⟩
                    case measure => simp [intOf]; omega
              · obtain rfl : t = m := by omega
                have hg := HG.out
                rw [List.take_of_length_le (by omega)] at hg
                cases g with
                | true =>
                  have HT : Hid (LU.lastK l (1 + n) k q = L) := Lib.hid (by rw [HStep.out, took_in (of_decide_eq_true hg.symm)])
                  clear hg
                  go_wp2_with fail
                  go_roundw
                  case rel => exact ⟨q, by omega, rfl, by rw [HT.out]; exact HR, HBr⟩
                  case measure => simp [intOf]
                | false =>
                  have HT : Hid (LU.lastK l (1 + n) k q = L ++ [x]) := Lib.hid (by rw [HStep.out, took_out (by omega) (of_decide_eq_false hg.symm)])
                  have z2 := HCx.out wr HBr.out
                  have HT9 : Hid (t ≤ 20) := Lib.hid (by omega)
                  clear hg
                  go_wp2_with (at_builtin; refine wpList_append_any _ rfl (.tmp 73) (.tmp 78) 37 rfl w3.heap.size 3 i0 (.int .i64 0) 1 8 Try.underlying37 hi0 hz0 hz1 hz2 rfl (by decide) (.slice A5 t c5) L.length _ rfl (World.ownsRow.alloc HR.out _) (wr.heap.size + 1) (some ⟨wr.heap.size, 0, none⟩) 1 1 [.int .i64 x] rfl (reads_newN wr 3 1 [.int .i64 x] 1 rfl) (by simp [Value.oneCell']) (by have := HT9.out; have := HM_.out; unfold maxLen; omega) (by have := HT9.out; have := HM_.out; omega) (by have := HBr.out.size; simp; omega) ?_; intro v2 w5 ho2 hg2 _; have HO2 : Hid (IntRow w5 w3.heap.size v2 (L ++ [x])) := Lib.hid (by unfold IntRow; rw [List.length_append, List.map_append]; exact ho2); have HB2 := Lib.hid (introw_below HR.out HBr.out (Nat.le_refl _) hg2); clear ho2 hg2)
                  go_roundw
                  case rel => exact ⟨q, by omega, rfl, by rw [HT.out]; exact HO2, HB2⟩
                  case measure => simp [intOf]
          · have hend : LU.lastK l (1 + n) k q = (LU.recent (l.take k).reverse).take (1 + n) := by
              rcases Nat.eq_zero_or_pos q with h0 | h0
              · subst h0; exact LU.lastK_end l _ k hk
              · exact LU.lastK_full hk q hqk (by omega)
            have HFa := Lib.hid (hit_facts HM.out hlt (by omega))
            have HCx : Hid (∀ wr, Below w.heap.size w wr → wr.cell? ⟨b, o + k, none⟩ = some (.int .i64 l[k])) := Lib.hid fun wr hbw => (hbw.cell (p := ⟨b, o + k, none⟩) hb).trans (HCw.out k hlt)
            have HXn := Lib.hid (HNl.out _ (List.getElem_mem hlt))
            rw [hend] at hm hml HR
            clear hend HCl
            generalize l[k] = x at *
            generalize (LU.recent (l.take k).reverse).take (1 + n) = R at *
            have HML := Lib.hid hml
            have HM_ := Lib.hid hm
            rcases (show q = 0 ∨ (0 < q ∧ m = 1 + n) by omega) with hz | ⟨hz, hz2⟩
            · subst hz
              have hk9' := hk9.trans (show Value.int .i64 (((0 : Nat) : Int) - 1) = .int .i64 (-1) by rfl)
              clear hk9 hgo hml
              subst hk9'
              go_upto_region 21 with fail
              go_loopw [12, 13] (fun th j wr => ∃ (t : Nat) (g : Bool), t ≤ m ∧ j = .int .i64 t ∧ th = .bool g ∧ Hid (g = decide (x ∈ R.take t)) ∧ Hid (IntRow wr w3.heap.size (.slice A5 m c5) R) ∧ Hid (Below w3.heap.size w3 wr)) (fun _ j _ => m - (intOf j).toNat)
              case atStart => exact ⟨0, false, Nat.zero_le _, rfl, rfl, Lib.hid (by simp), HR, HBr⟩
              case round =>
                clear HR HBr
                obtain ⟨t, g, htm, rfl, rfl, HG, HR, HBr⟩ := hrel
                by_cases htl : t < m
                · obtain ⟨g5, rfl, z1, hmc, hcm⟩ := row_at HR.out hm htl
                  have z2 := HCx.out wr (HB.out.trans (HBr.out.mono HB.out.size))
                  have HY : Hid (∃ y, R[t]'(by omega) = y) := Lib.hid ⟨_, rfl⟩
                  obtain ⟨y, hy⟩ := HY.out
                  rw [hy] at z1
                  unfold maxLen at hcm
                  have hti : (t : Int) < (m : Int) := by omega
                  have ht0 : (0 : Int) ≤ (t : Int) := by omega
                  cases g with
                  | true =>
                    have HN := Lib.hid (met_yes HG.out rfl)
                    clear hy HY
                    go_wp2_with fail
                    go_quiet (fail)
                    go_wp2_with fail
                    go_roundw
                    case rel => exact ⟨t + 1, true, by omega, by go_num, rfl, HN, HR, Lib.hid (below_drewN HBr.out nq)⟩
                    case measure => simp [intOf]; omega
                  | false =>
                    by_cases he : y = x
                    · have hyx : (y == x) = true := by simp [he]
                      have HN := Lib.hid (met_now (by omega) hy he)
                      clear hy HY he
                      go_wp2_with fail
                      go_quiet (fail)
                      go_wp2_with fail
                      go_roundw
                      case rel => exact ⟨t + 1, true, by omega, by go_num, rfl, HN, HR, Lib.hid (below_drewN HBr.out nq)⟩
                      case measure => simp [intOf]; omega
                    · have hyx : (y == x) = false := by simp [he]
                      have HN := Lib.hid (met_no (by omega) HG.out rfl hy he)
                      clear hy HY he
                      go_wp2_with fail
                      go_quiet (fail)
                      go_wp2_with fail
                      go_roundw
                      case rel => exact ⟨t + 1, false, by omega, by go_num, rfl, HN, HR, Lib.hid (below_drewN HBr.out nq)⟩
                      case measure => simp [intOf]; omega
                · obtain rfl : t = m := by omega
                  have hg := HG.out
                  rw [List.take_of_length_le (by omega)] at hg
                  have HBw := Lib.hid (HB.out.trans (HBr.out.mono HB.out.size))
                  have z2 := HCx.out wr HBw.out
                  have HMr := Lib.hid (HM.out.below HBr.out)
                  have HHas := Lib.hid (at_has HMr.out.at_ x HXn.out)
                  rw [HFa.out.has] at HHas
                  have HUse := Lib.hid (at_use HMr.out.at_ x HXn.out)
                  cases g with
                  | true =>
                    have hx := of_decide_eq_true hg.symm
                    have HY := Lib.hid (HFa.out.yes hx)
                    rw [decide_eq_true hx] at HHas
                    rw [HY.out.1] at HUse
                    clear hg hx htl htm
                    go_wp2_with (first
                      | (go_at_call 11; refine HHas.out.mono ?_; rintro e w5 ⟨rfl, rfl⟩)
                      | (go_at_call 18; refine HUse.out.mono ?_; rintro e w5 ⟨rfl, ha, ho⟩))
                    go_roundw
                    case rel => exact ⟨k + 1, _, _, by omega, by omega, by go_num, Lib.hid (HMr.out.next HBw.out.size ha ho HY.out.2.1 HY.out.2.2), Lib.hid (HMr.out.bel HBw.out.size HBw.out ho)⟩
                    case measure => simp [intOf]; omega
                  | false =>
                    have hx := of_decide_eq_false hg.symm
                    have HY := Lib.hid (HFa.out.no hx)
                    rw [decide_eq_false hx] at HHas
                    rw [HY.out.1] at HUse
                    by_cases hfull : t = 1 + n
                    · have HAd := Lib.hid (HFa.out.addV hx (decide_eq_true (hm.trans hfull)))
                      have HLast := Lib.hid (HY.out.2.2.2.2.2 (hm.trans hfull))
                      have hfi : (t : Int) = 1 + (n : Int) := by omega
                      have hl0 : (0 : Int) ≤ (t : Int) - 1 := by omega
                      have hl1 : (t : Int) - 1 < (t : Int) := by omega
                      have hl2 : ((t : Int) - 1).toNat = t - 1 := by omega
                      have hl3 : 0 < t := by omega
                      have HF0 := Lib.hid hfull
                      clear hg hx htl htm hfull
                      go_wp2_with (first
                        | (go_at_call 11; refine HHas.out.mono ?_; rintro e w5 ⟨rfl, rfl⟩)
                        | (go_at_call 18; refine HUse.out.mono ?_; rintro e w5 ⟨rfl, ha, ho⟩; have HO5 := Lib.hid ho; have HM5 := Lib.hid (HMr.out.same HBw.out.size ha ho); have HB5 := Lib.hid (HMr.out.bel HBw.out.size HBw.out ho); have z5 := HCx.out w5 HB5.out; have hAdd := at_add HM5.out.at_ x HXn.out; rw [HAd.out] at hAdd; have HAdd := Lib.hid hAdd; clear ha ho hAdd)
                        | (go_at_call 19; refine HAdd.out.mono ?_; rintro e w6 ⟨rfl, ha6, ho6⟩; have HM6 := Lib.hid (HM5.out.next HB5.out.size ha6 ho6 HY.out.2.1 HY.out.2.2.1); have HB6 := Lib.hid (HM5.out.bel HB5.out.size HB5.out ho6); have HR6 := Lib.hid (row_off HR.out (HO5.out.then_ ho6) (fun j hj => (HM.out.fin j hj).2)); obtain ⟨g6, rfl, z3, hmc, hcm⟩ := row_at HR6.out hm (show t - 1 < t by omega); rw [last_of hm HLast.out, show t - 1 = n by have := HF0.out; omega] at z3; unfold maxLen at hcm; clear ha6 ho6))
                      go_roundw
                      case rel => exact ⟨k + 1, _, _, by omega, by omega, by go_num, HM6, HB6⟩
                      case measure => simp [intOf]; omega
                    · have HAd := Lib.hid (HFa.out.addV hx (decide_eq_false (fun e => hfull (hm.symm.trans e))))
                      have hfi : ((t : Int) == 1 + (n : Int)) = false := by rw [beq_eq_false_iff_ne]; omega
                      clear hg hx htl htm hfull
                      go_wp2_with (first
                        | (go_at_call 11; refine HHas.out.mono ?_; rintro e w5 ⟨rfl, rfl⟩)
                        | (go_at_call 18; refine HUse.out.mono ?_; rintro e w5 ⟨rfl, ha, ho⟩; have HM5 := Lib.hid (HMr.out.same HBw.out.size ha ho); have HB5 := Lib.hid (HMr.out.bel HBw.out.size HBw.out ho); have z5 := HCx.out w5 HB5.out; have hAdd := at_add HM5.out.at_ x HXn.out; rw [HAd.out] at hAdd; have HAdd := Lib.hid hAdd; clear ha ho hAdd)
                        | (go_at_call 19; refine HAdd.out.mono ?_; rintro e w6 ⟨rfl, ha6, ho6⟩; have HM6 := Lib.hid (HM5.out.next HB5.out.size ha6 ho6 HY.out.2.1 HY.out.2.2.1); have HB6 := Lib.hid (HM5.out.bel HB5.out.size HB5.out ho6); clear ha6 ho6))
                      go_roundw
                      case rel => exact ⟨k + 1, _, _, by omega, by omega, by go_num, HM6, HB6⟩
                      case measure => simp [intOf]; omega
            · have hq1 : (0 : Int) ≤ (q : Int) - 1 := by omega
              have hm1 : ¬ (m : Int) < 1 + (n : Int) := by omega
              clear hgo hml hz2
              subst hk9
              go_upto_region 21 with fail
              go_loopw [12, 13] (fun th j wr => ∃ (t : Nat) (g : Bool), t ≤ m ∧ j = .int .i64 t ∧ th = .bool g ∧ Hid (g = decide (x ∈ R.take t)) ∧ Hid (IntRow wr w3.heap.size (.slice A5 m c5) R) ∧ Hid (Below w3.heap.size w3 wr)) (fun _ j _ => m - (intOf j).toNat)
              case atStart => exact ⟨0, false, Nat.zero_le _, rfl, rfl, Lib.hid (by simp), HR, HBr⟩
              case round =>
                clear HR HBr
                obtain ⟨t, g, htm, rfl, rfl, HG, HR, HBr⟩ := hrel
                by_cases htl : t < m
                · obtain ⟨g5, rfl, z1, hmc, hcm⟩ := row_at HR.out hm htl
                  have z2 := HCx.out wr (HB.out.trans (HBr.out.mono HB.out.size))
                  have HY : Hid (∃ y, R[t]'(by omega) = y) := Lib.hid ⟨_, rfl⟩
                  obtain ⟨y, hy⟩ := HY.out
                  rw [hy] at z1
                  unfold maxLen at hcm
                  have hti : (t : Int) < (m : Int) := by omega
                  have ht0 : (0 : Int) ≤ (t : Int) := by omega
                  cases g with
                  | true =>
                    have HN := Lib.hid (met_yes HG.out rfl)
                    clear hy HY
                    go_wp2_with fail
                    go_quiet (fail)
                    go_wp2_with fail
                    go_roundw
                    case rel => exact ⟨t + 1, true, by omega, by go_num, rfl, HN, HR, Lib.hid (below_drewN HBr.out nq)⟩
                    case measure => simp [intOf]; omega
                  | false =>
                    by_cases he : y = x
                    · have hyx : (y == x) = true := by simp [he]
                      have HN := Lib.hid (met_now (by omega) hy he)
                      clear hy HY he
                      go_wp2_with fail
                      go_quiet (fail)
                      go_wp2_with fail
                      go_roundw
                      case rel => exact ⟨t + 1, true, by omega, by go_num, rfl, HN, HR, Lib.hid (below_drewN HBr.out nq)⟩
                      case measure => simp [intOf]; omega
                    · have hyx : (y == x) = false := by simp [he]
                      have HN := Lib.hid (met_no (by omega) HG.out rfl hy he)
                      clear hy HY he
                      go_wp2_with fail
                      go_quiet (fail)
                      go_wp2_with fail
                      go_roundw
                      case rel => exact ⟨t + 1, false, by omega, by go_num, rfl, HN, HR, Lib.hid (below_drewN HBr.out nq)⟩
                      case measure => simp [intOf]; omega
                · obtain rfl : t = m := by omega
                  have hg := HG.out
                  rw [List.take_of_length_le (by omega)] at hg
                  have HBw := Lib.hid (HB.out.trans (HBr.out.mono HB.out.size))
                  have z2 := HCx.out wr HBw.out
                  have HMr := Lib.hid (HM.out.below HBr.out)
                  have HHas := Lib.hid (at_has HMr.out.at_ x HXn.out)
                  rw [HFa.out.has] at HHas
                  have HUse := Lib.hid (at_use HMr.out.at_ x HXn.out)
                  cases g with
                  | true =>
                    have hx := of_decide_eq_true hg.symm
                    have HY := Lib.hid (HFa.out.yes hx)
                    rw [decide_eq_true hx] at HHas
                    rw [HY.out.1] at HUse
                    clear hg hx htl htm
                    go_wp2_with (first
                      | (go_at_call 11; refine HHas.out.mono ?_; rintro e w5 ⟨rfl, rfl⟩)
                      | (go_at_call 18; refine HUse.out.mono ?_; rintro e w5 ⟨rfl, ha, ho⟩))
                    go_roundw
                    case rel => exact ⟨k + 1, _, _, by omega, by omega, by go_num, Lib.hid (HMr.out.next HBw.out.size ha ho HY.out.2.1 HY.out.2.2), Lib.hid (HMr.out.bel HBw.out.size HBw.out ho)⟩
                    case measure => simp [intOf]; omega
                  | false =>
                    have hx := of_decide_eq_false hg.symm
                    have HY := Lib.hid (HFa.out.no hx)
                    rw [decide_eq_false hx] at HHas
                    rw [HY.out.1] at HUse
                    by_cases hfull : t = 1 + n
                    · have HAd := Lib.hid (HFa.out.addV hx (decide_eq_true (hm.trans hfull)))
                      have HLast := Lib.hid (HY.out.2.2.2.2.2 (hm.trans hfull))
                      have hfi : (t : Int) = 1 + (n : Int) := by omega
                      have hl0 : (0 : Int) ≤ (t : Int) - 1 := by omega
                      have hl1 : (t : Int) - 1 < (t : Int) := by omega
                      have hl2 : ((t : Int) - 1).toNat = t - 1 := by omega
                      have hl3 : 0 < t := by omega
                      have HF0 := Lib.hid hfull
                      clear hg hx htl htm hfull
                      go_wp2_with (first
                        | (go_at_call 11; refine HHas.out.mono ?_; rintro e w5 ⟨rfl, rfl⟩)
                        | (go_at_call 18; refine HUse.out.mono ?_; rintro e w5 ⟨rfl, ha, ho⟩; have HO5 := Lib.hid ho; have HM5 := Lib.hid (HMr.out.same HBw.out.size ha ho); have HB5 := Lib.hid (HMr.out.bel HBw.out.size HBw.out ho); have z5 := HCx.out w5 HB5.out; have hAdd := at_add HM5.out.at_ x HXn.out; rw [HAd.out] at hAdd; have HAdd := Lib.hid hAdd; clear ha ho hAdd)
                        | (go_at_call 19; refine HAdd.out.mono ?_; rintro e w6 ⟨rfl, ha6, ho6⟩; have HM6 := Lib.hid (HM5.out.next HB5.out.size ha6 ho6 HY.out.2.1 HY.out.2.2.1); have HB6 := Lib.hid (HM5.out.bel HB5.out.size HB5.out ho6); have HR6 := Lib.hid (row_off HR.out (HO5.out.then_ ho6) (fun j hj => (HM.out.fin j hj).2)); obtain ⟨g6, rfl, z3, hmc, hcm⟩ := row_at HR6.out hm (show t - 1 < t by omega); rw [last_of hm HLast.out, show t - 1 = n by have := HF0.out; omega] at z3; unfold maxLen at hcm; clear ha6 ho6))
                      go_roundw
                      case rel => exact ⟨k + 1, _, _, by omega, by omega, by go_num, HM6, HB6⟩
                      case measure => simp [intOf]; omega
                    · have HAd := Lib.hid (HFa.out.addV hx (decide_eq_false (fun e => hfull (hm.symm.trans e))))
                      have hfi : ((t : Int) == 1 + (n : Int)) = false := by rw [beq_eq_false_iff_ne]; omega
                      clear hg hx htl htm hfull
                      go_wp2_with (first
                        | (go_at_call 11; refine HHas.out.mono ?_; rintro e w5 ⟨rfl, rfl⟩)
                        | (go_at_call 18; refine HUse.out.mono ?_; rintro e w5 ⟨rfl, ha, ho⟩; have HM5 := Lib.hid (HMr.out.same HBw.out.size ha ho); have HB5 := Lib.hid (HMr.out.bel HBw.out.size HBw.out ho); have z5 := HCx.out w5 HB5.out; have hAdd := at_add HM5.out.at_ x HXn.out; rw [HAd.out] at hAdd; have HAdd := Lib.hid hAdd; clear ha ho hAdd)
                        | (go_at_call 19; refine HAdd.out.mono ?_; rintro e w6 ⟨rfl, ha6, ho6⟩; have HM6 := Lib.hid (HM5.out.next HB5.out.size ha6 ho6 HY.out.2.1 HY.out.2.2.1); have HB6 := Lib.hid (HM5.out.bel HB5.out.size HB5.out ho6); clear ha6 ho6))
                      go_roundw
                      case rel => exact ⟨k + 1, _, _, by omega, by omega, by go_num, HM6, HB6⟩
                      case measure => simp [intOf]; omega
      · have hi8 : (120 : Int) ≤ (k : Int) := by omega
        have hi : (k : Int) < (l.length : Int) := by omega
        clear h80 hlt
        go_wp2_with fail
        go_ret
        exact ⟨rfl, HB.out⟩
    · obtain rfl : k = l.length := by omega
      clear hlt
      go_wp2_with fail
      go_ret
      exact ⟨rfl, HB.out⟩

set_option maxRecDepth 100000 in
theorem lifted (os : Os) (started : os.Started) (H : Type) (enc : TypeId × Value → H) :
    ReturnsInHanded {} Try.checked os 4 .any (Rows.lruHitsSpec.pre6 enc Try.prog Try.f4 Rows.lruHitsRow.domain false) (Rows.lruHitsSpec.post enc Try.prog Try.f4 false true false false) := by
  refine returnsInHanded_of_change_sized (C := Try.checked) own started (by kernel_rfl) Try.func4
    (ChangeSpec.witness6 (enc := enc) (C := Try.checked) false ⟨#[], #[.int .i64 0, .slice none 0 0], []⟩ 8 (by kernel_rfl) (by kernel_rfl) (by kernel_rfl) (by kernel_rfl)) ?_
  intro W base args ds gs before hval0 hW hcnd hsz0 _
  have hsz : (DataW.weightsEach Try.prog (Try.f4.params.toList ++ Rows.lruHitsSpec.plain.varTypes Try.prog) (ds ++ gs)).all (· ≤ reachBytes) = true := hsz0
  have hval : ∀ (j : Nat) t v, Try.f4.params[j]? = some t → args[j]? = some v → Value.okWide Try.prog W .any base t v := hval0
  have hW' := hW
  obtain ⟨p, q, hA0, hV, rfl, hfz, hnd⟩ := hW
  have hA : DataW.TrodAll enc Try.prog W 0 (fun _ => true) true Try.f4.params.toList args.toList ds p := hA0
  rw [Try.params4] at hA hval hsz
  obtain ⟨v0, vs0, d0, ds0, p0, q0, hargs, rfl, rfl, h0, r0⟩ := trodAll_cons hA
  obtain ⟨v1, vs1, d1, ds1, p1, q1, rfl, rfl, rfl, h1, r1⟩ := trodAll_cons r0
  obtain ⟨rfl, rfl, rfl⟩ := trodAll_nil r1
  obtain rfl : args = #[v0, v1] := by cases args; simp_all
  obtain ⟨rfl, rfl⟩ := trodVars_none hV
  obtain ⟨a0, rfl, rfl, rfl, w0⟩ := open_int Try.underlying3 (hval 0 3 v0 rfl rfl) h0
  have k1 := h1
  have lt1 : ∀ x ∈ p1, x.block < W.heap.size := by obtain ⟨m, hm⟩ := k1; exact DataW.trod_lt m _ _ _ hm
  obtain ⟨A1, l1, c1, rfl, hll1, hcl1, hnl1⟩ := open_nums Try.underlying37 Try.underlying3 (by kernel_rfl) (hval 1 37 v1 rfl rfl) h1
  clear hA0 hval0 hsz0
  refine (walk a0 A1 l1 c1 W w0 hll1 hcl1 hnl1).mono fun e W' ⟨he, bel⟩ => ?_
  subst he
  exact ⟨_, rfl, _, _, _, [], _, [], hW', trodAll_mk1 (shut_bool Try.underlying4 _), (trodAll_cons_mk (shut_int Try.underlying3 w0) (trodAll_cons_mk (Below.trod laidOut (by kernel_rfl) (of_decide_eq_true (by kernel_rfl)) k1 bel lt1) trodAll_mk0)), rfl, bel.frame _, fun h => by cases h⟩

theorem over : Rows.lruHitsRow.holds Try.pinned (OpenSpec.ofChange Rows.lruHitsSpec) :=
  OpenClaim.holds_of_wide 4 Try.f4 rfl rfl rfl rfl rfl rfl rfl ⟨rfl, rfl, rfl, rfl, rfl⟩ rfl rfl rfl rfl rfl (by kernel_rfl) Try.func4 (by kernel_rfl)
    (of_decide_eq_true (by kernel_rfl)) (by unfold Func.isWrapper; first | (rw [if_pos (by decide +kernel)]; kernel_rfl) | (rw [if_neg (by decide +kernel)]; exact ⟨rfl, rfl⟩))
    (fun os started H enc _ => lifted os started H enc)

/-- The statement. -/
theorem proved : Rows.LruHitsSaid := over
#print axioms proved
end Go.Proofs.Ytopdfhedifcalaa.lruHits
