/- The statement PageTurned: a page with any one bit turned is refused, and so it is under any other number. No conditions. -/
import Derived.Test.YtgpjhcpiemdbcaaRows
import Derived.Test.YtgpjhcpiemdbcaaOpen
import Derived.Test.YtgpjhcpiemdbcaaPgT
import Derived.Test.YtgpjhcpiemdbcaaPgU
import Derived.Test.YtgpjhcpiemdbcaaSame
import Derived.WalkKit
import Derived.Deep.CutBlock
import Derived.Deep.CutRange
import Derived.ProofKit
import Derived.OpenShut
import Derived.ShutString
import Derived.ChangeOld
import Derived.Below
import Derived.SizedLaws
import Derived.JoinedCond
namespace Go.Proofs.Ytgpjhcpiemdbcaa.pageTurned
open Go.ChangeShapes Go.WideShapes Go.ChangeAt Go.RowKit
open Go.ChangeMaps (open_string shut_string)
set_option linter.unusedVariables false

theorem own : ownKnob Try.prog.godebug = none := by kernel_rfl
theorem laidOut : laidOutB Try.prog = true := by kernel_rfl
theorem bytes_u8 : Try.prog.bytesOf 5 = 1 := by kernel_rfl

theorem blk_set {w : World} {g : Nat} {t : TypeId} {l : List UInt8} (hb : Blk w g t (bv l).toArray) (k : Nat) (d : UInt8) : Blk (w.setCell ⟨g, k, none⟩ (.int .u8 (d.toNat : Int))) g t (bv (l.set k d)).toArray := by
  have h := hb.set_ k (.int .u8 (d.toNat : Int))
  have e : (bv (l.set k d)).toArray = (bv l).toArray.setIfInBounds k (.int .u8 (d.toNat : Int)) := by simp [bv, List.map_set]
  rw [e]
  exact h
set_option maxRecDepth 100000 in
set_option maxHeartbeats 1600000 in
theorem walk (no kind : Int) (A : Option Addr) (l : List UInt8) (c : Nat) (bit other : Int) (w : World) (_hn : (Lit.int .i64 no).wf = true) (_hk : (Lit.int .i64 kind).wf = true) (_hlc : l.length ≤ c) (_hcm : c ≤ maxLen) (hr : Reads w w.heap.size 1 A l.length (bv l)) (hre : l.length ≤ 140737488351232)
    (_hbit : (Lit.int .i64 bit).wf = true) (_ho : (Lit.int .i64 other).wf = true) :
    Calls Try.prog 6 #[.int .i64 no, .int .i64 kind, .slice A l.length c, .int .i64 bit, .int .i64 other] w fun e w' => e = .returned (.bool true) ∧ Below w.heap.size w w' := by
  have HR := Lib.hid hr
  clear _hn _hk _hlc _hcm _hbit _ho hr
  by_cases hp : (mPack no kind l).2 = 0
  · have hpk := pack_yes hp w _ A c rfl (by omega) HR.out
    obtain ⟨hno, hkd, h244, hm⟩ := mPack_ok hp
    rw [hm] at hpk
    have HPk := Lib.hid hpk
    have HL := Lib.hid (pgBytes_length no.toNat kind.toNat l h244)
    have HSum := Lib.hid (pgBytes_sum no.toNat kind.toNat l h244)
    have HNo := Lib.hid hno
    have HOp := Lib.hid (fun W B c hr => open_yes (open_packed no kind l hno hkd h244) (m := l.length) rfl W B (A := some c) 256 HL.out (by omega) hr)
    have hoth := other_open no other kind l hno hkd h244
    generalize pgBytes no.toNat kind.toNat l = P at *
    have hoo := fun W c (hr : Reads W W.heap.size 1 (some c) P.length (bv P)) => open_read other P W W.heap.size (some c) 256 (by rw [HL.out]; omega) hr
    conv at hoo => intro W c hr; arg 3; rw [HL.out]
    have HOo := Lib.hid hoo
    clear hoo
    generalize mOpen other P = R at *
    obtain ⟨k2, b2, e2⟩ := R
    simp only at HOo hoth
    have h256 : (l.length : Int) ≤ 244 := by omega
    clear hpk hno hkd h244 hm hp
    by_cases he : other = no
    · have he2 : (other != no) = false := by rw [he]; simp
      clear he hoth
      go_enter Try.func6, Try.ntmps6
      go_upto_region 10 with (first
        | (go_at_call 9; refine HPk.out.mono ?_; rintro e w1 ⟨g, rfl, hg, hb1, hbl1⟩; have HG := Lib.hid hg; have HBk1 := Lib.hid hb1; have HB01 := Lib.hid hbl1; clear hb1 hbl1)
        | (go_at_call 11; refine (awake_any w1).mono ?_; rintro e w2 ⟨rfl, hb2⟩; have HBk2 := Lib.hid (HBk1.out.below hb2 HBk1.out.lt); have HB02 := Lib.hid (HB01.out.trans (hb2.mono HB01.out.size)); clear hb2)
        | (go_at_call 14; have m0 := HB04; refine (HOo.out w4 ⟨g, 0, none⟩ (blk_all HBk4.out)).mono ?_; rintro e w5 ⟨A5, c5, rfl, ho5, hb5⟩; have HBk := Lib.hid (HBk4.out.below hb5 HBk4.out.lt); have HB05 := Lib.hid (HB04.out.trans (hb5.mono HB04.out.size)); clear ho5 hb5)
        | (go_at_call 14; refine (HOp.out w2 w2.heap.size ⟨g, 0, none⟩ (blk_all HBk2.out)).mono ?_; rintro e w3 ⟨A3, c3, rfl, ho3, hc3, hb3⟩; have HO3 := Lib.hid ho3; have HBk3 := Lib.hid (HBk2.out.below hb3 HBk2.out.lt); have HB03 := Lib.hid (HB02.out.trans (hb3.mono HB02.out.size)); clear ho3 hb3)
        | (go_at_call 12; refine (same_any l l A3 A _ _ c3 c w3 (by unfold maxLen; omega) (by unfold maxLen; omega) HO3.out.reads (HR.out.over HB03.out)).mono ?_; rintro e w4 ⟨he4, hb4⟩; rw [decide_eq_true rfl] at he4; subst he4; have HBk4 := Lib.hid (HBk3.out.below hb4 HBk3.out.lt); have HB04 := Lib.hid (HB03.out.trans (hb4.mono HB03.out.size)); clear hb4)
        | fail)
      have HB06 := Lib.hid (HB05.out)
      by_cases hb0 : 0 ≤ bit
      · by_cases hb1 : bit < 2048
        · go_upto_region 12 with fail
          obtain ⟨t, rfl⟩ := Int.eq_ofNat_of_zero_le hb0
          have hk : t / 8 < 256 := by omega
          have hx : P[t / 8]? = some (P[t / 8]'(by rw [HL.out]; exact hk)) := List.getElem?_eq_getElem _
          have h3 := HBk.out.cell (t / 8)
          have h4 : w5.cell? ⟨g, t / 8, none⟩ = some (.int .u8 ((P[t / 8]'(by rw [HL.out]; exact hk)).toNat : Int)) := by rw [h3]; simpa using bv_get P (t / 8) (by rw [HL.out]; exact hk)
          have hfr := HBk.out.frozen (t / 8)
          have hi1 : 0 ≤ (t : Int) := by omega
          have hi2 : (t : Int) / 8 < 256 := by omega
          have hi3 : 0 ≤ (t : Int) / 8 := by omega
          have hT := turned_open no P (t / 8) _ (turned (P[t / 8]'(by rw [HL.out]; exact hk)) (t % 8)) HNo.out HL.out hx (turn_ne _ _ (Nat.mod_lt _ (by omega))) HSum.out
          have hV := turn_val (P[t / 8]'(by rw [HL.out]; exact hk)) (t % 8) (Nat.mod_lt _ (by omega))
          have hbk := blk_set HBk.out (t / 8) (turned (P[t / 8]'(by rw [HL.out]; exact hk)) (t % 8))
          generalize turned (P[t / 8]'(by rw [HL.out]; exact hk)) (t % 8) = d at *
          generalize P[t / 8]'(by rw [HL.out]; exact hk) = x at *
          have hop := fun W B c hr => open_not (n := 256) (by rw [hT]; decide : (mOpen no (P.set (t / 8) d)).2.2 ≠ 0) W B (A := some c) 256 (by rw [List.length_set]; exact HL.out) (by omega) hr
          rw [hT, show ((5 : Nat) : Int) = 5 from rfl] at hop
          have HOp := Lib.hid hop
          have HBK := Lib.hid hbk
          have HV := Lib.hid hV
          have HB07 : Hid (Below w.heap.size w (w5.setCell ⟨g, t / 8, none⟩ (.int .u8 (d.toNat : Int)))) := Lib.hid (HB05.out.setCell HG.out _)
          clear hx h3 hT hV hbk hop hb0 hb1 hk
          go_wp2_with fail
          rw [HV.out]
          clear hfr h4
          generalize w5.setCell ⟨g, t / 8, none⟩ (.int .u8 (d.toNat : Int)) = w6 at *
          refine (HOp.out w6 w6.heap.size ⟨g, 0, none⟩ (blk_all HBK.out)).mono ?_
          rintro e w7 ⟨rfl, hb7⟩
          go_wp2_with fail
          go_ret
          exact ⟨rfl, HB07.out.trans (hb7.mono HB07.out.size)⟩
        · have hb2 : 2048 ≤ bit := by omega
          go_wp2_with fail
          go_ret
          exact ⟨rfl, HB05.out⟩
      · have hb2 : bit < 0 := by omega
        go_wp2_with fail
        go_ret
        exact ⟨rfl, HB05.out⟩
    · have he2 : (other != no) = true := by rw [bne_iff_ne]; exact he
      have he3 : ((e2 : Int) == 0) = false := by have := hoth he; rw [beq_eq_false_iff_ne]; omega
      clear he hoth
      go_enter Try.func6, Try.ntmps6
      go_upto_region 10 with (first
        | (go_at_call 9; refine HPk.out.mono ?_; rintro e w1 ⟨g, rfl, hg, hb1, hbl1⟩; have HG := Lib.hid hg; have HBk1 := Lib.hid hb1; have HB01 := Lib.hid hbl1; clear hb1 hbl1)
        | (go_at_call 11; refine (awake_any w1).mono ?_; rintro e w2 ⟨rfl, hb2⟩; have HBk2 := Lib.hid (HBk1.out.below hb2 HBk1.out.lt); have HB02 := Lib.hid (HB01.out.trans (hb2.mono HB01.out.size)); clear hb2)
        | (go_at_call 14; have m0 := HB04; refine (HOo.out w4 ⟨g, 0, none⟩ (blk_all HBk4.out)).mono ?_; rintro e w5 ⟨A5, c5, rfl, ho5, hb5⟩; have HBk := Lib.hid (HBk4.out.below hb5 HBk4.out.lt); have HB05 := Lib.hid (HB04.out.trans (hb5.mono HB04.out.size)); clear ho5 hb5)
        | (go_at_call 14; refine (HOp.out w2 w2.heap.size ⟨g, 0, none⟩ (blk_all HBk2.out)).mono ?_; rintro e w3 ⟨A3, c3, rfl, ho3, hc3, hb3⟩; have HO3 := Lib.hid ho3; have HBk3 := Lib.hid (HBk2.out.below hb3 HBk2.out.lt); have HB03 := Lib.hid (HB02.out.trans (hb3.mono HB02.out.size)); clear ho3 hb3)
        | (go_at_call 12; refine (same_any l l A3 A _ _ c3 c w3 (by unfold maxLen; omega) (by unfold maxLen; omega) HO3.out.reads (HR.out.over HB03.out)).mono ?_; rintro e w4 ⟨he4, hb4⟩; rw [decide_eq_true rfl] at he4; subst he4; have HBk4 := Lib.hid (HBk3.out.below hb4 HBk3.out.lt); have HB04 := Lib.hid (HB03.out.trans (hb4.mono HB03.out.size)); clear hb4)
        | fail)
      have HB06 := Lib.hid (HB05.out)
      by_cases hb0 : 0 ≤ bit
      · by_cases hb1 : bit < 2048
        · go_upto_region 12 with fail
          obtain ⟨t, rfl⟩ := Int.eq_ofNat_of_zero_le hb0
          have hk : t / 8 < 256 := by omega
          have hx : P[t / 8]? = some (P[t / 8]'(by rw [HL.out]; exact hk)) := List.getElem?_eq_getElem _
          have h3 := HBk.out.cell (t / 8)
          have h4 : w5.cell? ⟨g, t / 8, none⟩ = some (.int .u8 ((P[t / 8]'(by rw [HL.out]; exact hk)).toNat : Int)) := by rw [h3]; simpa using bv_get P (t / 8) (by rw [HL.out]; exact hk)
          have hfr := HBk.out.frozen (t / 8)
          have hi1 : 0 ≤ (t : Int) := by omega
          have hi2 : (t : Int) / 8 < 256 := by omega
          have hi3 : 0 ≤ (t : Int) / 8 := by omega
          have hT := turned_open no P (t / 8) _ (turned (P[t / 8]'(by rw [HL.out]; exact hk)) (t % 8)) HNo.out HL.out hx (turn_ne _ _ (Nat.mod_lt _ (by omega))) HSum.out
          have hV := turn_val (P[t / 8]'(by rw [HL.out]; exact hk)) (t % 8) (Nat.mod_lt _ (by omega))
          have hbk := blk_set HBk.out (t / 8) (turned (P[t / 8]'(by rw [HL.out]; exact hk)) (t % 8))
          generalize turned (P[t / 8]'(by rw [HL.out]; exact hk)) (t % 8) = d at *
          generalize P[t / 8]'(by rw [HL.out]; exact hk) = x at *
          have hop := fun W B c hr => open_not (n := 256) (by rw [hT]; decide : (mOpen no (P.set (t / 8) d)).2.2 ≠ 0) W B (A := some c) 256 (by rw [List.length_set]; exact HL.out) (by omega) hr
          rw [hT, show ((5 : Nat) : Int) = 5 from rfl] at hop
          have HOp := Lib.hid hop
          have HBK := Lib.hid hbk
          have HV := Lib.hid hV
          have HB07 : Hid (Below w.heap.size w (w5.setCell ⟨g, t / 8, none⟩ (.int .u8 (d.toNat : Int)))) := Lib.hid (HB05.out.setCell HG.out _)
          clear hx h3 hT hV hbk hop hb0 hb1 hk
          go_wp2_with fail
          rw [HV.out]
          clear hfr h4
          generalize w5.setCell ⟨g, t / 8, none⟩ (.int .u8 (d.toNat : Int)) = w6 at *
          refine (HOp.out w6 w6.heap.size ⟨g, 0, none⟩ (blk_all HBK.out)).mono ?_
          rintro e w7 ⟨rfl, hb7⟩
          go_wp2_with fail
          go_ret
          exact ⟨rfl, HB07.out.trans (hb7.mono HB07.out.size)⟩
        · have hb2 : 2048 ≤ bit := by omega
          go_wp2_with fail
          go_ret
          exact ⟨rfl, HB05.out⟩
      · have hb2 : bit < 0 := by omega
        go_wp2_with fail
        go_ret
        exact ⟨rfl, HB05.out⟩
  · have hpk := pack_not hp w _ A c rfl (by omega) HR.out
    have hne : (((mPack no kind l).2 : Int) != 0) = true := by rw [bne_iff_ne]; omega
    generalize (mPack no kind l).2 = e0 at *
    have HPk := Lib.hid hpk
    clear hpk hp
    go_enter Try.func6, Try.ntmps6
    go_wp2_with (first
      | (go_at_call 9; refine HPk.out.mono ?_; rintro e w1 ⟨rfl, hb1⟩; have HB1 := Lib.hid hb1; clear hb1)
      | (go_at_call 11; have m0 := HB2; refine (awake_any w2).mono ?_; rintro e w3 ⟨rfl, hb3⟩)
      | (go_at_call 11; refine (awake_any w1).mono ?_; rintro e w2 ⟨rfl, hb2⟩; have HB2 := Lib.hid (HB1.out.trans (hb2.mono HB1.out.size)); clear hb2)
      | fail)
    go_ret
    exact ⟨rfl, HB2.out.trans (hb3.mono HB2.out.size)⟩

set_option maxRecDepth 100000 in
theorem lifted (os : Os) (started : os.Started) (H : Type) (enc : TypeId × Value → H) :
    ReturnsInHanded {} Try.checked os 6 .any (Rows.pageTurnedSpec.pre6 enc Try.prog Try.f6 Rows.pageTurnedRow.domain false) (Rows.pageTurnedSpec.post enc Try.prog Try.f6 false true false false) := by
  refine returnsInHanded_of_change_sized (C := Try.checked) own started (by kernel_rfl) Try.func6
    (ChangeSpec.witness6 (enc := enc) (C := Try.checked) false ⟨#[], #[.int .i64 0, .int .i64 0, .slice none 0 0, .int .i64 0, .int .i64 0], []⟩ 8 (by kernel_rfl) (by kernel_rfl) (by kernel_rfl) (by kernel_rfl)) ?_
  intro W base args ds gs before hval0 hW hcnd hsz0 _
  have hsz : (DataW.weightsEach Try.prog (Try.f6.params.toList ++ Rows.pageTurnedSpec.plain.varTypes Try.prog) (ds ++ gs)).all (· ≤ reachBytes) = true := hsz0
  have hval : ∀ (j : Nat) t v, Try.f6.params[j]? = some t → args[j]? = some v → Value.okWide Try.prog W .any base t v := hval0
  have hW' := hW
  obtain ⟨p, q, hA0, hV, rfl, hfz, hnd⟩ := hW
  have hA : DataW.TrodAll enc Try.prog W 0 (fun _ => true) true Try.f6.params.toList args.toList ds p := hA0
  rw [Try.params6] at hA hval hsz
  obtain ⟨v0, vs0, d0, ds0, p0, q0, hargs, rfl, rfl, h0, r0⟩ := trodAll_cons hA
  obtain ⟨v1, vs1, d1, ds1, p1, q1, rfl, rfl, rfl, h1, r1⟩ := trodAll_cons r0
  obtain ⟨v2, vs2, d2, ds2, p2, q2, rfl, rfl, rfl, h2, r2⟩ := trodAll_cons r1
  obtain ⟨v3, vs3, d3, ds3, p3, q3, rfl, rfl, rfl, h3, r3⟩ := trodAll_cons r2
  obtain ⟨v4, vs4, d4, ds4, p4, q4, rfl, rfl, rfl, h4, r4⟩ := trodAll_cons r3
  obtain ⟨rfl, rfl, rfl⟩ := trodAll_nil r4
  obtain rfl : args = #[v0, v1, v2, v3, v4] := by cases args; simp_all
  obtain ⟨rfl, rfl⟩ := trodVars_none hV
  obtain ⟨a0, rfl, rfl, rfl, w0⟩ := open_int Try.underlying3 (hval 0 3 v0 rfl rfl) h0
  obtain ⟨a1, rfl, rfl, rfl, w1⟩ := open_int Try.underlying3 (hval 1 3 v1 rfl rfl) h1
  have k2 := h2
  have lt2 : ∀ x ∈ p2, x.block < W.heap.size := by obtain ⟨m, hm⟩ := k2; exact DataW.trod_lt m _ _ _ hm
  obtain ⟨A2, l2, c2, rfl, hlc2, hcm2, hr2, hln2⟩ := open_bytes Try.underlying22 Try.underlying5 (by kernel_rfl) (hval 2 22 v2 rfl rfl) h2
  have hre2 := reach_bytes hsz (j := 2) rfl rfl Try.underlying22 bytes_u8 hln2
  obtain ⟨a3, rfl, rfl, rfl, w3⟩ := open_int Try.underlying3 (hval 3 3 v3 rfl rfl) h3
  obtain ⟨a4, rfl, rfl, rfl, w4⟩ := open_int Try.underlying3 (hval 4 3 v4 rfl rfl) h4
  clear hA0 hval0 hsz0
  refine (walk a0 a1 A2 l2 c2 a3 a4 W w0 w1 hlc2 hcm2 hr2 hre2 w3 w4).mono fun e W' ⟨he, bel⟩ => ?_
  subst he
  exact ⟨_, rfl, _, _, _, [], _, [], hW', trodAll_mk1 (shut_bool Try.underlying4 _), (trodAll_cons_mk (shut_int Try.underlying3 w0) (trodAll_cons_mk (shut_int Try.underlying3 w1) (trodAll_cons_mk (Below.trod laidOut (by kernel_rfl) (of_decide_eq_true (by kernel_rfl)) k2 bel lt2) (trodAll_cons_mk (shut_int Try.underlying3 w3) (trodAll_cons_mk (shut_int Try.underlying3 w4) trodAll_mk0))))), rfl, bel.frame _, fun h => by cases h⟩

theorem over : Rows.pageTurnedRow.holds Try.pinned (OpenSpec.ofChange Rows.pageTurnedSpec) :=
  OpenClaim.holds_of_wide 6 Try.f6 rfl rfl rfl rfl rfl rfl rfl ⟨rfl, rfl, rfl, rfl, rfl⟩ rfl rfl rfl rfl rfl (by kernel_rfl) Try.func6 (by kernel_rfl)
    (of_decide_eq_true (by kernel_rfl)) (by unfold Func.isWrapper; first | (rw [if_pos (by decide +kernel)]; kernel_rfl) | (rw [if_neg (by decide +kernel)]; exact ⟨rfl, rfl⟩))
    (fun os started H enc _ => lifted os started H enc)

/-- The statement. -/
theorem proved : Rows.PageTurnedSaid := over
#print axioms proved
end Go.Proofs.Ytgpjhcpiemdbcaa.pageTurned
