/- The statement LruPinned: a pinned key stays. No conditions. -/
import Derived.Test.YtopdfhedifcalaaRows
import Derived.Test.YtopdfhedifcalaaOpen
import Derived.Test.YtopdfhedifcalaaLpA
import Derived.Test.YtopdfhedifcalaaOpenL
import Derived.Test.YtopdfhedifcalaaPick
import Derived.WalkKit
import Derived.ProofKit
import Derived.OpenShut
import Derived.ShutString
import Derived.ChangeOld
import Derived.Below
import Derived.SizedLaws
import Derived.JoinedCond
namespace Go.Proofs.Ytopdfhedifcalaa.lruPinned
open Go.ChangeShapes Go.WideShapes Go.ChangeAt Go.RowKit
open Go.ChangeMaps (open_string shut_string)
set_option linter.unusedVariables false

theorem own : ownKnob Try.prog.godebug = none := by kernel_rfl
theorem laidOut : laidOutB Try.prog = true := by kernel_rfl

set_option maxRecDepth 100000 in
set_option maxHeartbeats 16000000 in
theorem walk (cp pn : Int) (A : Option Addr) (l : List (Int × Int)) (c : Nat) (w : World) (hcp : (Lit.int .i64 cp).wf = true) (hpn : (Lit.int .i64 pn).wf = true) (hll : l.length ≤ 9223372036854775807) (hcl : CallsIn2 w A l) (hnl : Nums2 l) :
    Calls Try.prog 5 #[.int .i64 cp, .int .i64 pn, .slice A l.length c] w fun e w' => e = .returned (.bool true) ∧ Below w.heap.size w w' := by
  have HAw := Lib.hid awake_any
  clear hcp
  obtain ⟨m, hm, hm9⟩ : ∃ m : Nat, cp % 9 = (m : Int) ∧ m < 9 := ⟨(cp % 9).toNat, by omega, by omega⟩
  have HPk : Hid (Calls Try.prog 17 #[.int .i64 cp, .int .i64 9] w fun e w' => e = .returned (.int .i64 (m : Int)) ∧ w = w') := Lib.hid (by
    have := pick_any cp 9 w ⟨by omega, by omega⟩
    rw [hm] at this
    exact this)
  have HNew : Hid (Calls Try.prog 8 #[.int .i64 (1 + (m : Int))] w (MadeN w.heap.size w ⟨1 + m, []⟩)) := Lib.hid (by
    have := new_new (Nat.le_refl w.heap.size) (1 + m) (by omega) (by omega)
    rw [show ((1 + m : Nat) : Int) = 1 + (m : Int) from by omega] at this
    exact this)
  have HC := Lib.hid hcl
  have HNl := Lib.hid hnl
  have HPn : Hid (Num pn) := Lib.hid hpn
  have hn0 : (0 : Int) ≤ (m : Int) := by omega
  have hn1 : (m : Int) < 9 := by omega
  clear hcl hnl hll hm hpn
  go_enter Try.func5, Try.ntmps5
  go_upto_region 9 with (first
    | (go_at_call 17; refine HPk.out.mono ?_; rintro e w1 ⟨rfl, rfl⟩)
    | (go_at_call 8; refine HNew.out.mono ?_; rintro e w1 ⟨p, rfl, k1, b1, n1⟩)
    | (go_at_call 9; refine (HAw.out _).mono ?_; rintro e w2 ⟨rfl, b2⟩; have HN2 := Lib.hid (k1.below b2); have HB2 := Lib.hid (b1.trans (b2.mono b1.size)); have hA := new_add HN2.out HB2.out.size pn HPn.out; unfold addV at hA; rw [(first_pin m pn).1] at hA; have HA := Lib.hid hA; clear hA k1 b1 b2 n1)
    | (go_at_call 19; refine HA.out.mono ?_; rintro e w3 ⟨rfl, k3, b3, n3⟩; have HB3 := Lib.hid (HB2.out.trans b3); have hP := new_pin k3 HB3.out.size (fun x hx => by rw [List.mem_singleton.1 hx]; exact Nat.zero_le _) pn HPn.out; rw [(first_pin m pn).2] at hP; have HP := Lib.hid hP; clear hP k3 b3 n3)
    | (go_at_call 20; refine HP.out.mono ?_; rintro e w4 ⟨rfl, k4, b4, n4⟩; have HM0 := Lib.hid (pin_start k4); have HB0 := Lib.hid (HB3.out.trans b4); clear k4 b4 n4))
  clear HNew HPk HA HP HN2 HB2 HB3
  go_loopw [12, 13, 14, 15, 16, 17, 18, 19] (fun i _ _ _ _ _ _ _ wr => ∃ (k : Nat) (s : LU), k ≤ l.length ∧ k ≤ 150 ∧ i = .int .i64 k ∧ Hid (PinM w.heap.size wr p s m pn (k + 1)) ∧ Hid (Below w.heap.size w wr)) (fun i _ _ _ _ _ _ _ _ => l.length - (intOf i).toNat)
  case atStart => exact ⟨0, _, Nat.zero_le _, Nat.zero_le _, rfl, HM0, HB0⟩
  case round =>
    obtain ⟨k, s, hk, hk1, rfl, HM, HB⟩ := hrel
    by_cases hlt : k < l.length
    · by_cases h80 : k < 150
      · have hi : (k : Int) < (l.length : Int) := by omega
        have hi8 : (k : Int) < 150 := by omega
        have hik0 : (0 : Int) ≤ (k : Int) := by omega
        obtain ⟨b, o, rfl, hb, hc⟩ := HC.out (fun e => by rw [e] at hlt; exact absurd hlt (Nat.not_lt_zero _))
        obtain ⟨x0, x1⟩ := hc k hlt
        have HNk : Hid (Num l[k].2) := Lib.hid (HNl.out _ (List.getElem_mem hlt)).2
        have y0 := (HB.out.cell (p := ⟨b, o + k * 2, none⟩) hb).trans x0
        have y1 := (HB.out.cell (p := ⟨b, o + k * 2 + 1, none⟩) hb).trans x1
        clear hc x0 x1
        generalize l[k] = cl at *
        obtain ⟨kd, key⟩ := cl
        simp only at y0 y1 HNk
        obtain ⟨w3, rfl⟩ : ∃ wo : World, wo = wr := ⟨_, rfl⟩
        go_upto_region 12 with fail
        obtain ⟨wA, hwA⟩ : ∃ wA : World, wA = w3.alloc (.cells #[.int .i64 kd, .int .i64 key] 34) := ⟨_, rfl⟩
        have hblk : Blk wA w3.heap.size 34 #[.int .i64 kd, .int .i64 key] := by rw [hwA]; exact heap_alloc_new _ _
        have hbA : Below w3.heap.size w3 wA := by rw [hwA]; exact (Below.refl _ _).alloc (Nat.le_refl _) _
        have HBA : Hid (Below w.heap.size w wA) := Lib.hid (HB.out.trans (hbA.mono HB.out.size))
        have HMA := Lib.hid (HM.out.below hbA)
        have hltA : w3.heap.size < wA.heap.size := by rw [hwA]; simp
        have HbA := Lib.hid hbA
        have HLt := Lib.hid hltA
        have a0 : wA.cell? ⟨w3.heap.size, 0, none⟩ = some (.int .i64 kd) := by rw [hblk.cell]; rfl
        have a1 : wA.cell? ⟨w3.heap.size, 1, none⟩ = some (.int .i64 key) := by rw [hblk.cell]; rfl
        have HKeep : Hid (∀ W, Below wA.heap.size wA W → W.cell? ⟨w3.heap.size, 0, none⟩ = some (.int .i64 kd) ∧ W.cell? ⟨w3.heap.size, 1, none⟩ = some (.int .i64 key)) := Lib.hid fun W hb => ⟨(hb.cell (p := ⟨w3.heap.size, 0, none⟩) hltA).trans a0, (hb.cell (p := ⟨w3.heap.size, 1, none⟩) hltA).trans a1⟩
        have HKey1 := Lib.hid HMA.out.keys
        have hp151 : PinsLe s 1152921504606846976 := HM.out.le.mono (by omega)
        have HP151 := Lib.hid hp151
        rw [← hwA]
        clear hwA hblk hbA hltA hp151 y0 y1
        by_cases hcont : key = pn ∧ kd = 5
        · obtain ⟨rfl, rfl⟩ := hcont
          go_wp2_with fail
          go_roundw
          case rel => exact ⟨k + 1, _, by omega, by omega, by go_num, Lib.hid HMA.out.stay, HBA⟩
          case measure => simp [intOf]; omega
        by_cases hkp : key = pn
        · subst hkp
          by_cases h2 : kd = 2
          · subst h2
            rcases add_ways s key with ⟨s1, hE⟩ | ⟨hl, ho, s1, hE⟩ | ⟨hl, s1, hE⟩ | ⟨hl, s1, g, hE⟩
            · have hv : addV s key = .tuple #[.int .i64 0, .bool false, .int .i64 1] := by unfold addV; rw [hE]; rfl
              obtain ⟨ov, hov⟩ := oldV_is s
              have HPS := Lib.hid (HM.out.add key)
              rw [hE] at HPS
              have HOV := Lib.hid hov
              have HV := Lib.hid (And.intro hE hv)
              clear hv hov hE
              go_wp2_with (first
                | (go_at_call 13; refine HM6.out.keys.mono ?_; rintro e w8 ⟨A8, c8, rfl, b8⟩; have HM8 := Lib.hid (HM6.out.below b8); have HB8 := Lib.hid (HB6.out.trans (b8.mono HB6.out.size)); clear b8)
                | (go_at_call 11; refine (HM6.out.has HPn.out).mono ?_; rintro e w7 ⟨rfl, rfl⟩; have hfew := HM6.out.few)
                | (go_at_call 19; refine HAdd.out.mono ?_; rintro e w6 ⟨rfl, h6, b6, n6⟩; have HM6 := Lib.hid (HPS.out.of h6); have HB6 := Lib.hid (HBw5.out.trans b6); clear h6 b6 n6)
                | (go_at_call 21; refine (new_oldest HM4.out.new).mono ?_; rw [HOV.out]; rintro e w5 ⟨rfl, b5⟩; have HM5 := Lib.hid (HM4.out.below b5); have HBw5 := Lib.hid (HBw4.out.trans (b5.mono HBw4.out.size)); have hb45 := HB4.out.trans (b5.mono HB4.out.size); obtain ⟨d5, d6⟩ := HKeep.out w5 hb45; have hAdd := new_add HM5.out.new HBw5.out.size key HNk.out; rw [HV.out.2, HV.out.1] at hAdd; have HAdd := Lib.hid hAdd; clear b5 hb45 hAdd)
                | (go_at_call 13; refine HKey1.out.mono ?_; rintro e w4 ⟨A4, c4, rfl, b4⟩; have HB4 := Lib.hid b4; have HM4 := Lib.hid (HMA.out.below b4); have HBw4 := Lib.hid (HBA.out.trans (b4.mono HBA.out.size)); obtain ⟨d0, d1⟩ := HKeep.out w4 b4; clear b4))
              go_roundw
              case rel => exact ⟨k + 1, _, by omega, by omega, by go_num, HM8, HB8⟩
              case measure => simp [intOf]; omega
            · have hv : addV s key = .tuple #[.int .i64 0, .bool false, .int .i64 9] := by unfold addV; rw [hE]; rfl
              obtain ⟨ov, hov⟩ := oldV_is s
              rw [ho] at hov
              have HPS := Lib.hid (HM.out.add key)
              rw [hE] at HPS
              have hfi : (s.items.length : Int) = 1 + (m : Int) := by rw [hl, HM.out.cap]; omega
              have HOV := Lib.hid hov
              have HV := Lib.hid (And.intro hE hv)
              clear hv hov hE hl ho
              go_wp2_with (first
                | (go_at_call 13; refine HM6.out.keys.mono ?_; rintro e w8 ⟨A8, c8, rfl, b8⟩; have HM8 := Lib.hid (HM6.out.below b8); have HB8 := Lib.hid (HB6.out.trans (b8.mono HB6.out.size)); clear b8)
                | (go_at_call 11; refine (HM6.out.has HPn.out).mono ?_; rintro e w7 ⟨rfl, rfl⟩; have hfew := HM6.out.few)
                | (go_at_call 19; refine HAdd.out.mono ?_; rintro e w6 ⟨rfl, h6, b6, n6⟩; have HM6 := Lib.hid (HPS.out.of h6); have HB6 := Lib.hid (HBw5.out.trans b6); clear h6 b6 n6)
                | (go_at_call 21; refine (new_oldest HM4.out.new).mono ?_; rw [HOV.out]; rintro e w5 ⟨rfl, b5⟩; have HM5 := Lib.hid (HM4.out.below b5); have HBw5 := Lib.hid (HBw4.out.trans (b5.mono HBw4.out.size)); have hb45 := HB4.out.trans (b5.mono HB4.out.size); obtain ⟨d5, d6⟩ := HKeep.out w5 hb45; have hAdd := new_add HM5.out.new HBw5.out.size key HNk.out; rw [HV.out.2, HV.out.1] at hAdd; have HAdd := Lib.hid hAdd; clear b5 hb45 hAdd)
                | (go_at_call 13; refine HKey1.out.mono ?_; rintro e w4 ⟨A4, c4, rfl, b4⟩; have HB4 := Lib.hid b4; have HM4 := Lib.hid (HMA.out.below b4); have HBw4 := Lib.hid (HBA.out.trans (b4.mono HBA.out.size)); obtain ⟨d0, d1⟩ := HKeep.out w4 b4; clear b4))
              go_roundw
              case rel => exact ⟨k + 1, _, by omega, by omega, by go_num, HM8, HB8⟩
              case measure => simp [intOf]; omega
            · have hv : addV s key = .tuple #[.int .i64 0, .bool false, .int .i64 0] := by unfold addV; rw [hE]; rfl
              obtain ⟨ov, hov⟩ := oldV_is s
              have HPS := Lib.hid (HM.out.add key)
              rw [hE] at HPS
              have hfi : ((s.items.length : Int) == 1 + (m : Int)) = false := by rw [beq_eq_false_iff_ne]; intro e; exact hl (by rw [HM.out.cap]; omega)
              have HOV := Lib.hid hov
              have HV := Lib.hid (And.intro hE hv)
              clear hv hov hE hl
              go_wp2_with (first
                | (go_at_call 13; refine HM6.out.keys.mono ?_; rintro e w8 ⟨A8, c8, rfl, b8⟩; have HM8 := Lib.hid (HM6.out.below b8); have HB8 := Lib.hid (HB6.out.trans (b8.mono HB6.out.size)); clear b8)
                | (go_at_call 11; refine (HM6.out.has HPn.out).mono ?_; rintro e w7 ⟨rfl, rfl⟩; have hfew := HM6.out.few)
                | (go_at_call 19; refine HAdd.out.mono ?_; rintro e w6 ⟨rfl, h6, b6, n6⟩; have HM6 := Lib.hid (HPS.out.of h6); have HB6 := Lib.hid (HBw5.out.trans b6); clear h6 b6 n6)
                | (go_at_call 21; refine (new_oldest HM4.out.new).mono ?_; rw [HOV.out]; rintro e w5 ⟨rfl, b5⟩; have HM5 := Lib.hid (HM4.out.below b5); have HBw5 := Lib.hid (HBw4.out.trans (b5.mono HBw4.out.size)); have hb45 := HB4.out.trans (b5.mono HB4.out.size); obtain ⟨d5, d6⟩ := HKeep.out w5 hb45; have hAdd := new_add HM5.out.new HBw5.out.size key HNk.out; rw [HV.out.2, HV.out.1] at hAdd; have HAdd := Lib.hid hAdd; clear b5 hb45 hAdd)
                | (go_at_call 13; refine HKey1.out.mono ?_; rintro e w4 ⟨A4, c4, rfl, b4⟩; have HB4 := Lib.hid b4; have HM4 := Lib.hid (HMA.out.below b4); have HBw4 := Lib.hid (HBA.out.trans (b4.mono HBA.out.size)); obtain ⟨d0, d1⟩ := HKeep.out w4 b4; clear b4))
              go_roundw
              case rel => exact ⟨k + 1, _, by omega, by omega, by go_num, HM8, HB8⟩
              case measure => simp [intOf]; omega
            · have hv : addV s key = .tuple #[.int .i64 g, .bool true, .int .i64 0] := by unfold addV; rw [hE]; rfl
              obtain ⟨ov, hov⟩ := oldV_is s
              have HPS := Lib.hid (HM.out.add key)
              rw [hE] at HPS
              have hfi : (s.items.length : Int) = 1 + (m : Int) := by rw [hl, HM.out.cap]; omega
              have hgp : (g == key) = false := by rw [beq_eq_false_iff_ne]; exact HM.out.gone key hE
              have HOV := Lib.hid hov
              have HV := Lib.hid (And.intro hE hv)
              clear hv hov hE hl
              go_wp2_with (first
                | (go_at_call 13; refine HM6.out.keys.mono ?_; rintro e w8 ⟨A8, c8, rfl, b8⟩; have HM8 := Lib.hid (HM6.out.below b8); have HB8 := Lib.hid (HB6.out.trans (b8.mono HB6.out.size)); clear b8)
                | (go_at_call 11; refine (HM6.out.has HPn.out).mono ?_; rintro e w7 ⟨rfl, rfl⟩; have hfew := HM6.out.few)
                | (go_at_call 19; refine HAdd.out.mono ?_; rintro e w6 ⟨rfl, h6, b6, n6⟩; have HM6 := Lib.hid (HPS.out.of h6); have HB6 := Lib.hid (HBw5.out.trans b6); clear h6 b6 n6)
                | (go_at_call 21; refine (new_oldest HM4.out.new).mono ?_; rw [HOV.out]; rintro e w5 ⟨rfl, b5⟩; have HM5 := Lib.hid (HM4.out.below b5); have HBw5 := Lib.hid (HBw4.out.trans (b5.mono HBw4.out.size)); have hb45 := HB4.out.trans (b5.mono HB4.out.size); obtain ⟨d5, d6⟩ := HKeep.out w5 hb45; have hAdd := new_add HM5.out.new HBw5.out.size key HNk.out; rw [HV.out.2, HV.out.1] at hAdd; have HAdd := Lib.hid hAdd; clear b5 hb45 hAdd)
                | (go_at_call 13; refine HKey1.out.mono ?_; rintro e w4 ⟨A4, c4, rfl, b4⟩; have HB4 := Lib.hid b4; have HM4 := Lib.hid (HMA.out.below b4); have HBw4 := Lib.hid (HBA.out.trans (b4.mono HBA.out.size)); obtain ⟨d0, d1⟩ := HKeep.out w4 b4; clear b4))
              go_roundw
              case rel => exact ⟨k + 1, _, by omega, by omega, by go_num, HM8, HB8⟩
              case measure => simp [intOf]; omega
          by_cases h3 : kd = 3
          · subst h3
            have HPS := Lib.hid (HM.out.drop key)
            have hdf : (s.drop key).2 = false := by
              cases hq : (s.drop key).2 with
              | false => rfl
              | true => exact absurd rfl (HM.out.dropped key hq)
            have HDF := Lib.hid hdf
            clear hdf
            go_wp2_with (first
              | (go_at_call 13; refine HM6.out.keys.mono ?_; rintro e w8 ⟨A8, c8, rfl, b8⟩; have HM8 := Lib.hid (HM6.out.below b8); have HB8 := Lib.hid (HB6.out.trans (b8.mono HB6.out.size)); clear b8)
              | (go_at_call 11; refine (HM6.out.has HPn.out).mono ?_; rintro e w7 ⟨rfl, rfl⟩; have hfew := HM6.out.few)
              | (go_at_call 22; refine HDrop.out.mono ?_; rintro e w6 ⟨rfl, h6, b6, n6⟩; have HM6 := Lib.hid (HPS.out.of h6); have HB6 := Lib.hid (HBw4.out.trans b6); clear h6 b6 n6)
              | (go_at_call 13; refine HKey1.out.mono ?_; rintro e w4 ⟨A4, c4, rfl, b4⟩; have HB4 := Lib.hid b4; have HM4 := Lib.hid (HMA.out.below b4); have HBw4 := Lib.hid (HBA.out.trans (b4.mono HBA.out.size)); obtain ⟨d0, d1⟩ := HKeep.out w4 b4; clear b4; have hD := new_drop HM4.out.new HBw4.out.size key HNk.out; rw [HDF.out] at hD; have HDrop := Lib.hid hD; clear hD))
            go_roundw
            case rel => exact ⟨k + 1, _, by omega, by omega, by go_num, HM8, HB8⟩
            case measure => simp [intOf]; omega
          by_cases h4 : kd = 4
          · subst h4
            have HPS := Lib.hid (HM.out.pin_ key)
            go_wp2_with (first
              | (go_at_call 13; refine HM6.out.keys.mono ?_; rintro e w8 ⟨A8, c8, rfl, b8⟩; have HM8 := Lib.hid (HM6.out.below b8); have HB8 := Lib.hid (HB6.out.trans (b8.mono HB6.out.size)); clear b8)
              | (go_at_call 11; refine (HM6.out.has HPn.out).mono ?_; rintro e w7 ⟨rfl, rfl⟩; have hfew := HM6.out.few)
              | (go_at_call 20; refine (new_pin HM4.out.new HBw4.out.size HP151.out key HNk.out).mono ?_; rintro e w6 ⟨rfl, h6, b6, n6⟩; have HM6 := Lib.hid (HPS.out.of h6); have HB6 := Lib.hid (HBw4.out.trans b6); clear h6 b6 n6)
              | (go_at_call 13; refine HKey1.out.mono ?_; rintro e w4 ⟨A4, c4, rfl, b4⟩; have HB4 := Lib.hid b4; have HM4 := Lib.hid (HMA.out.below b4); have HBw4 := Lib.hid (HBA.out.trans (b4.mono HBA.out.size)); obtain ⟨d0, d1⟩ := HKeep.out w4 b4; clear b4))
            go_roundw
            case rel => exact ⟨k + 1, _, by omega, by omega, by go_num, HM8, HB8⟩
            case measure => simp [intOf]; omega
          have h5 : kd ≠ 5 := fun e => hcont ⟨rfl, e⟩
          have q2 : (kd == 2) = false := by simp [h2]
          have q3 : (kd == 3) = false := by simp [h3]
          have q4 : (kd == 4) = false := by simp [h4]
          have q5 : (kd == 5) = false := by simp [h5]
          have HPS := Lib.hid (HM.out.use key)
          go_wp2_with (first
            | (go_at_call 13; refine HM6.out.keys.mono ?_; rintro e w8 ⟨A8, c8, rfl, b8⟩; have HM8 := Lib.hid (HM6.out.below b8); have HB8 := Lib.hid (HB6.out.trans (b8.mono HB6.out.size)); clear b8)
            | (go_at_call 11; refine (HM6.out.has HPn.out).mono ?_; rintro e w7 ⟨rfl, rfl⟩; have hfew := HM6.out.few)
            | (go_at_call 18; refine (new_use HM4.out.new HBw4.out.size key HNk.out).mono ?_; rintro e w6 ⟨rfl, h6, b6, n6⟩; have HM6 := Lib.hid (HPS.out.of h6); have HB6 := Lib.hid (HBw4.out.trans b6); clear h6 b6 n6)
            | (go_at_call 13; refine HKey1.out.mono ?_; rintro e w4 ⟨A4, c4, rfl, b4⟩; have HB4 := Lib.hid b4; have HM4 := Lib.hid (HMA.out.below b4); have HBw4 := Lib.hid (HBA.out.trans (b4.mono HBA.out.size)); obtain ⟨d0, d1⟩ := HKeep.out w4 b4; clear b4))
          go_roundw
          case rel => exact ⟨k + 1, _, by omega, by omega, by go_num, HM8, HB8⟩
          case measure => simp [intOf]; omega
        · have hkb : (key == pn) = false := by simp [hkp]
          have hkn : key ≠ pn := hkp
          by_cases h2 : kd = 2
          · subst h2
            rcases add_ways s key with ⟨s1, hE⟩ | ⟨hl, ho, s1, hE⟩ | ⟨hl, s1, hE⟩ | ⟨hl, s1, g, hE⟩
            · have hv : addV s key = .tuple #[.int .i64 0, .bool false, .int .i64 1] := by unfold addV; rw [hE]; rfl
              obtain ⟨ov, hov⟩ := oldV_is s
              have HPS := Lib.hid (HM.out.add key)
              rw [hE] at HPS
              have HOV := Lib.hid hov
              have HV := Lib.hid (And.intro hE hv)
              clear hv hov hE
              go_wp2_with (first
                | (go_at_call 13; refine HM6.out.keys.mono ?_; rintro e w8 ⟨A8, c8, rfl, b8⟩; have HM8 := Lib.hid (HM6.out.below b8); have HB8 := Lib.hid (HB6.out.trans (b8.mono HB6.out.size)); clear b8)
                | (go_at_call 11; refine (HM6.out.has HPn.out).mono ?_; rintro e w7 ⟨rfl, rfl⟩; have hfew := HM6.out.few)
                | (go_at_call 19; refine HAdd.out.mono ?_; rintro e w6 ⟨rfl, h6, b6, n6⟩; have HM6 := Lib.hid (HPS.out.of h6); have HB6 := Lib.hid (HBw5.out.trans b6); clear h6 b6 n6)
                | (go_at_call 21; refine (new_oldest HM4.out.new).mono ?_; rw [HOV.out]; rintro e w5 ⟨rfl, b5⟩; have HM5 := Lib.hid (HM4.out.below b5); have HBw5 := Lib.hid (HBw4.out.trans (b5.mono HBw4.out.size)); have hb45 := HB4.out.trans (b5.mono HB4.out.size); obtain ⟨d5, d6⟩ := HKeep.out w5 hb45; have hAdd := new_add HM5.out.new HBw5.out.size key HNk.out; rw [HV.out.2, HV.out.1] at hAdd; have HAdd := Lib.hid hAdd; clear b5 hb45 hAdd)
                | (go_at_call 13; refine HKey1.out.mono ?_; rintro e w4 ⟨A4, c4, rfl, b4⟩; have HB4 := Lib.hid b4; have HM4 := Lib.hid (HMA.out.below b4); have HBw4 := Lib.hid (HBA.out.trans (b4.mono HBA.out.size)); obtain ⟨d0, d1⟩ := HKeep.out w4 b4; clear b4))
              go_roundw
              case rel => exact ⟨k + 1, _, by omega, by omega, by go_num, HM8, HB8⟩
              case measure => simp [intOf]; omega
            · have hv : addV s key = .tuple #[.int .i64 0, .bool false, .int .i64 9] := by unfold addV; rw [hE]; rfl
              obtain ⟨ov, hov⟩ := oldV_is s
              rw [ho] at hov
              have HPS := Lib.hid (HM.out.add key)
              rw [hE] at HPS
              have hfi : (s.items.length : Int) = 1 + (m : Int) := by rw [hl, HM.out.cap]; omega
              have HOV := Lib.hid hov
              have HV := Lib.hid (And.intro hE hv)
              clear hv hov hE hl ho
              go_wp2_with (first
                | (go_at_call 13; refine HM6.out.keys.mono ?_; rintro e w8 ⟨A8, c8, rfl, b8⟩; have HM8 := Lib.hid (HM6.out.below b8); have HB8 := Lib.hid (HB6.out.trans (b8.mono HB6.out.size)); clear b8)
                | (go_at_call 11; refine (HM6.out.has HPn.out).mono ?_; rintro e w7 ⟨rfl, rfl⟩; have hfew := HM6.out.few)
                | (go_at_call 19; refine HAdd.out.mono ?_; rintro e w6 ⟨rfl, h6, b6, n6⟩; have HM6 := Lib.hid (HPS.out.of h6); have HB6 := Lib.hid (HBw5.out.trans b6); clear h6 b6 n6)
                | (go_at_call 21; refine (new_oldest HM4.out.new).mono ?_; rw [HOV.out]; rintro e w5 ⟨rfl, b5⟩; have HM5 := Lib.hid (HM4.out.below b5); have HBw5 := Lib.hid (HBw4.out.trans (b5.mono HBw4.out.size)); have hb45 := HB4.out.trans (b5.mono HB4.out.size); obtain ⟨d5, d6⟩ := HKeep.out w5 hb45; have hAdd := new_add HM5.out.new HBw5.out.size key HNk.out; rw [HV.out.2, HV.out.1] at hAdd; have HAdd := Lib.hid hAdd; clear b5 hb45 hAdd)
                | (go_at_call 13; refine HKey1.out.mono ?_; rintro e w4 ⟨A4, c4, rfl, b4⟩; have HB4 := Lib.hid b4; have HM4 := Lib.hid (HMA.out.below b4); have HBw4 := Lib.hid (HBA.out.trans (b4.mono HBA.out.size)); obtain ⟨d0, d1⟩ := HKeep.out w4 b4; clear b4))
              go_roundw
              case rel => exact ⟨k + 1, _, by omega, by omega, by go_num, HM8, HB8⟩
              case measure => simp [intOf]; omega
            · have hv : addV s key = .tuple #[.int .i64 0, .bool false, .int .i64 0] := by unfold addV; rw [hE]; rfl
              obtain ⟨ov, hov⟩ := oldV_is s
              have HPS := Lib.hid (HM.out.add key)
              rw [hE] at HPS
              have hfi : ((s.items.length : Int) == 1 + (m : Int)) = false := by rw [beq_eq_false_iff_ne]; intro e; exact hl (by rw [HM.out.cap]; omega)
              have HOV := Lib.hid hov
              have HV := Lib.hid (And.intro hE hv)
              clear hv hov hE hl
              go_wp2_with (first
                | (go_at_call 13; refine HM6.out.keys.mono ?_; rintro e w8 ⟨A8, c8, rfl, b8⟩; have HM8 := Lib.hid (HM6.out.below b8); have HB8 := Lib.hid (HB6.out.trans (b8.mono HB6.out.size)); clear b8)
                | (go_at_call 11; refine (HM6.out.has HPn.out).mono ?_; rintro e w7 ⟨rfl, rfl⟩; have hfew := HM6.out.few)
                | (go_at_call 19; refine HAdd.out.mono ?_; rintro e w6 ⟨rfl, h6, b6, n6⟩; have HM6 := Lib.hid (HPS.out.of h6); have HB6 := Lib.hid (HBw5.out.trans b6); clear h6 b6 n6)
                | (go_at_call 21; refine (new_oldest HM4.out.new).mono ?_; rw [HOV.out]; rintro e w5 ⟨rfl, b5⟩; have HM5 := Lib.hid (HM4.out.below b5); have HBw5 := Lib.hid (HBw4.out.trans (b5.mono HBw4.out.size)); have hb45 := HB4.out.trans (b5.mono HB4.out.size); obtain ⟨d5, d6⟩ := HKeep.out w5 hb45; have hAdd := new_add HM5.out.new HBw5.out.size key HNk.out; rw [HV.out.2, HV.out.1] at hAdd; have HAdd := Lib.hid hAdd; clear b5 hb45 hAdd)
                | (go_at_call 13; refine HKey1.out.mono ?_; rintro e w4 ⟨A4, c4, rfl, b4⟩; have HB4 := Lib.hid b4; have HM4 := Lib.hid (HMA.out.below b4); have HBw4 := Lib.hid (HBA.out.trans (b4.mono HBA.out.size)); obtain ⟨d0, d1⟩ := HKeep.out w4 b4; clear b4))
              go_roundw
              case rel => exact ⟨k + 1, _, by omega, by omega, by go_num, HM8, HB8⟩
              case measure => simp [intOf]; omega
            · have hv : addV s key = .tuple #[.int .i64 g, .bool true, .int .i64 0] := by unfold addV; rw [hE]; rfl
              obtain ⟨ov, hov⟩ := oldV_is s
              have HPS := Lib.hid (HM.out.add key)
              rw [hE] at HPS
              have hfi : (s.items.length : Int) = 1 + (m : Int) := by rw [hl, HM.out.cap]; omega
              have hgp : (g == pn) = false := by rw [beq_eq_false_iff_ne]; exact HM.out.gone key hE
              have HOV := Lib.hid hov
              have HV := Lib.hid (And.intro hE hv)
              clear hv hov hE hl
              go_wp2_with (first
                | (go_at_call 13; refine HM6.out.keys.mono ?_; rintro e w8 ⟨A8, c8, rfl, b8⟩; have HM8 := Lib.hid (HM6.out.below b8); have HB8 := Lib.hid (HB6.out.trans (b8.mono HB6.out.size)); clear b8)
                | (go_at_call 11; refine (HM6.out.has HPn.out).mono ?_; rintro e w7 ⟨rfl, rfl⟩; have hfew := HM6.out.few)
                | (go_at_call 19; refine HAdd.out.mono ?_; rintro e w6 ⟨rfl, h6, b6, n6⟩; have HM6 := Lib.hid (HPS.out.of h6); have HB6 := Lib.hid (HBw5.out.trans b6); clear h6 b6 n6)
                | (go_at_call 21; refine (new_oldest HM4.out.new).mono ?_; rw [HOV.out]; rintro e w5 ⟨rfl, b5⟩; have HM5 := Lib.hid (HM4.out.below b5); have HBw5 := Lib.hid (HBw4.out.trans (b5.mono HBw4.out.size)); have hb45 := HB4.out.trans (b5.mono HB4.out.size); obtain ⟨d5, d6⟩ := HKeep.out w5 hb45; have hAdd := new_add HM5.out.new HBw5.out.size key HNk.out; rw [HV.out.2, HV.out.1] at hAdd; have HAdd := Lib.hid hAdd; clear b5 hb45 hAdd)
                | (go_at_call 13; refine HKey1.out.mono ?_; rintro e w4 ⟨A4, c4, rfl, b4⟩; have HB4 := Lib.hid b4; have HM4 := Lib.hid (HMA.out.below b4); have HBw4 := Lib.hid (HBA.out.trans (b4.mono HBA.out.size)); obtain ⟨d0, d1⟩ := HKeep.out w4 b4; clear b4))
              go_roundw
              case rel => exact ⟨k + 1, _, by omega, by omega, by go_num, HM8, HB8⟩
              case measure => simp [intOf]; omega
          by_cases h3 : kd = 3
          · subst h3
            have HPS := Lib.hid (HM.out.drop key)
            obtain ⟨db, hdb⟩ : ∃ db, (s.drop key).2 = db := ⟨_, rfl⟩
            have HDF := Lib.hid hdb
            clear hdb
            cases db
            all_goals
              go_wp2_with (first
                | (go_at_call 13; refine HM6.out.keys.mono ?_; rintro e w8 ⟨A8, c8, rfl, b8⟩; have HM8 := Lib.hid (HM6.out.below b8); have HB8 := Lib.hid (HB6.out.trans (b8.mono HB6.out.size)); clear b8)
                | (go_at_call 11; refine (HM6.out.has HPn.out).mono ?_; rintro e w7 ⟨rfl, rfl⟩; have hfew := HM6.out.few)
                | (go_at_call 22; refine HDrop.out.mono ?_; rintro e w6 ⟨⟨rfl, h6, b6, n6⟩, hkeep⟩; have HM6 := Lib.hid (HPS.out.of h6); have HB6 := Lib.hid (HBw4.out.trans b6); have d6 := (hkeep w3.heap.size 1 (Nat.le_refl _) (Nat.lt_of_lt_of_le HLt.out HB4.out.size)).trans d1; clear h6 b6 n6 hkeep)
                | (go_at_call 13; refine HKey1.out.mono ?_; rintro e w4 ⟨A4, c4, rfl, b4⟩; have HB4 := Lib.hid b4; have HM4 := Lib.hid (HMA.out.below b4); have HBw4 := Lib.hid (HBA.out.trans (b4.mono HBA.out.size)); obtain ⟨d0, d1⟩ := HKeep.out w4 b4; clear b4; have hD := new_drop_keep HM.out.new (HbA.out.trans (HB4.out.mono (Nat.le_of_lt HLt.out))) HBw4.out.size HNk.out; rw [HDF.out] at hD; have HDrop := Lib.hid hD; clear hD))
              go_roundw
              case rel => exact ⟨k + 1, _, by omega, by omega, by go_num, HM8, HB8⟩
              case measure => simp [intOf]; omega
          by_cases h4 : kd = 4
          · subst h4
            have HPS := Lib.hid (HM.out.pin_ key)
            go_wp2_with (first
              | (go_at_call 13; refine HM6.out.keys.mono ?_; rintro e w8 ⟨A8, c8, rfl, b8⟩; have HM8 := Lib.hid (HM6.out.below b8); have HB8 := Lib.hid (HB6.out.trans (b8.mono HB6.out.size)); clear b8)
              | (go_at_call 11; refine (HM6.out.has HPn.out).mono ?_; rintro e w7 ⟨rfl, rfl⟩; have hfew := HM6.out.few)
              | (go_at_call 20; refine (new_pin HM4.out.new HBw4.out.size HP151.out key HNk.out).mono ?_; rintro e w6 ⟨rfl, h6, b6, n6⟩; have HM6 := Lib.hid (HPS.out.of h6); have HB6 := Lib.hid (HBw4.out.trans b6); clear h6 b6 n6)
              | (go_at_call 13; refine HKey1.out.mono ?_; rintro e w4 ⟨A4, c4, rfl, b4⟩; have HB4 := Lib.hid b4; have HM4 := Lib.hid (HMA.out.below b4); have HBw4 := Lib.hid (HBA.out.trans (b4.mono HBA.out.size)); obtain ⟨d0, d1⟩ := HKeep.out w4 b4; clear b4))
            go_roundw
            case rel => exact ⟨k + 1, _, by omega, by omega, by go_num, HM8, HB8⟩
            case measure => simp [intOf]; omega
          by_cases h5 : kd = 5
          · subst h5
            have HPS := Lib.hid (HM.out.unpin key hkn)
            go_wp2_with (first
              | (go_at_call 13; refine HM6.out.keys.mono ?_; rintro e w8 ⟨A8, c8, rfl, b8⟩; have HM8 := Lib.hid (HM6.out.below b8); have HB8 := Lib.hid (HB6.out.trans (b8.mono HB6.out.size)); clear b8)
              | (go_at_call 11; refine (HM6.out.has HPn.out).mono ?_; rintro e w7 ⟨rfl, rfl⟩; have hfew := HM6.out.few)
              | (go_at_call 23; refine (new_unpin HM4.out.new HBw4.out.size HP151.out key HNk.out).mono ?_; rintro e w6 ⟨rfl, h6, b6, n6⟩; have HM6 := Lib.hid (HPS.out.of h6); have HB6 := Lib.hid (HBw4.out.trans b6); clear h6 b6 n6)
              | (go_at_call 13; refine HKey1.out.mono ?_; rintro e w4 ⟨A4, c4, rfl, b4⟩; have HB4 := Lib.hid b4; have HM4 := Lib.hid (HMA.out.below b4); have HBw4 := Lib.hid (HBA.out.trans (b4.mono HBA.out.size)); obtain ⟨d0, d1⟩ := HKeep.out w4 b4; clear b4))
            go_roundw
            case rel => exact ⟨k + 1, _, by omega, by omega, by go_num, HM8, HB8⟩
            case measure => simp [intOf]; omega
          have q2 : (kd == 2) = false := by simp [h2]
          have q3 : (kd == 3) = false := by simp [h3]
          have q4 : (kd == 4) = false := by simp [h4]
          have q5 : (kd == 5) = false := by simp [h5]
          have HPS := Lib.hid (HM.out.use key)
          go_wp2_with (first
            | (go_at_call 13; refine HM6.out.keys.mono ?_; rintro e w8 ⟨A8, c8, rfl, b8⟩; have HM8 := Lib.hid (HM6.out.below b8); have HB8 := Lib.hid (HB6.out.trans (b8.mono HB6.out.size)); clear b8)
            | (go_at_call 11; refine (HM6.out.has HPn.out).mono ?_; rintro e w7 ⟨rfl, rfl⟩; have hfew := HM6.out.few)
            | (go_at_call 18; refine (new_use HM4.out.new HBw4.out.size key HNk.out).mono ?_; rintro e w6 ⟨rfl, h6, b6, n6⟩; have HM6 := Lib.hid (HPS.out.of h6); have HB6 := Lib.hid (HBw4.out.trans b6); clear h6 b6 n6)
            | (go_at_call 13; refine HKey1.out.mono ?_; rintro e w4 ⟨A4, c4, rfl, b4⟩; have HB4 := Lib.hid b4; have HM4 := Lib.hid (HMA.out.below b4); have HBw4 := Lib.hid (HBA.out.trans (b4.mono HBA.out.size)); obtain ⟨d0, d1⟩ := HKeep.out w4 b4; clear b4))
          go_roundw
          case rel => exact ⟨k + 1, _, by omega, by omega, by go_num, HM8, HB8⟩
          case measure => simp [intOf]; omega
      · have hi8 : (150 : Int) ≤ (k : Int) := by omega
        have hi : (k : Int) < (l.length : Int) := by omega
        clear h80 hlt
        go_wp2_with fail
        go_ret
        exact ⟨rfl, HB.out⟩
    · obtain rfl : k = l.length := by omega
      clear hlt
      go_wp2_with fail
      go_ret
      exact ⟨rfl, HB.out⟩

set_option maxRecDepth 100000 in
theorem lifted (os : Os) (started : os.Started) (H : Type) (enc : TypeId × Value → H) :
    ReturnsInHanded {} Try.checked os 5 .any (Rows.lruPinnedSpec.pre6 enc Try.prog Try.f5 Rows.lruPinnedRow.domain false) (Rows.lruPinnedSpec.post enc Try.prog Try.f5 false true false false) := by
  refine returnsInHanded_of_change_sized (C := Try.checked) own started (by kernel_rfl) Try.func5
    (ChangeSpec.witness6 (enc := enc) (C := Try.checked) false ⟨#[], #[.int .i64 0, .int .i64 0, .slice none 0 0], []⟩ 8 (by kernel_rfl) (by kernel_rfl) (by kernel_rfl) (by kernel_rfl)) ?_
  intro W base args ds gs before hval0 hW hcnd hsz0 _
  have hsz : (DataW.weightsEach Try.prog (Try.f5.params.toList ++ Rows.lruPinnedSpec.plain.varTypes Try.prog) (ds ++ gs)).all (· ≤ reachBytes) = true := hsz0
  have hval : ∀ (j : Nat) t v, Try.f5.params[j]? = some t → args[j]? = some v → Value.okWide Try.prog W .any base t v := hval0
  have hW' := hW
  obtain ⟨p, q, hA0, hV, rfl, hfz, hnd⟩ := hW
  have hA : DataW.TrodAll enc Try.prog W 0 (fun _ => true) true Try.f5.params.toList args.toList ds p := hA0
  rw [Try.params5] at hA hval hsz
  obtain ⟨v0, vs0, d0, ds0, p0, q0, hargs, rfl, rfl, h0, r0⟩ := trodAll_cons hA
  obtain ⟨v1, vs1, d1, ds1, p1, q1, rfl, rfl, rfl, h1, r1⟩ := trodAll_cons r0
  obtain ⟨v2, vs2, d2, ds2, p2, q2, rfl, rfl, rfl, h2, r2⟩ := trodAll_cons r1
  obtain ⟨rfl, rfl, rfl⟩ := trodAll_nil r2
  obtain rfl : args = #[v0, v1, v2] := by cases args; simp_all
  obtain ⟨rfl, rfl⟩ := trodVars_none hV
  obtain ⟨a0, rfl, rfl, rfl, w0⟩ := open_int Try.underlying3 (hval 0 3 v0 rfl rfl) h0
  obtain ⟨a1, rfl, rfl, rfl, w1⟩ := open_int Try.underlying3 (hval 1 3 v1 rfl rfl) h1
  have k2 := h2
  have lt2 : ∀ x ∈ p2, x.block < W.heap.size := by obtain ⟨m, hm⟩ := k2; exact DataW.trod_lt m _ _ _ hm
  obtain ⟨A2, l2, c2, rfl, hll2, hcl2, hnl2⟩ := open_lcalls Try.underlying22 Try.underlying34 (by kernel_rfl) (by kernel_rfl) Try.underlying3 Try.underlying3 (hval 2 22 v2 rfl rfl) h2
  clear hA0 hval0 hsz0
  refine (walk a0 a1 A2 l2 c2 W w0 w1 hll2 hcl2 hnl2).mono fun e W' ⟨he, bel⟩ => ?_
  subst he
  exact ⟨_, rfl, _, _, _, [], _, [], hW', trodAll_mk1 (shut_bool Try.underlying4 _), (trodAll_cons_mk (shut_int Try.underlying3 w0) (trodAll_cons_mk (shut_int Try.underlying3 w1) (trodAll_cons_mk (Below.trod laidOut (by kernel_rfl) (of_decide_eq_true (by kernel_rfl)) k2 bel lt2) trodAll_mk0))), rfl, bel.frame _, fun h => by cases h⟩

theorem over : Rows.lruPinnedRow.holds Try.pinned (OpenSpec.ofChange Rows.lruPinnedSpec) :=
  OpenClaim.holds_of_wide 5 Try.f5 rfl rfl rfl rfl rfl rfl rfl ⟨rfl, rfl, rfl, rfl, rfl⟩ rfl rfl rfl rfl rfl (by kernel_rfl) Try.func5 (by kernel_rfl)
    (of_decide_eq_true (by kernel_rfl)) (by unfold Func.isWrapper; first | (rw [if_pos (by decide +kernel)]; kernel_rfl) | (rw [if_neg (by decide +kernel)]; exact ⟨rfl, rfl⟩))
    (fun os started H enc _ => lifted os started H enc)

/-- The statement. -/
theorem proved : Rows.LruPinnedSaid := over
#print axioms proved
end Go.Proofs.Ytopdfhedifcalaa.lruPinned
