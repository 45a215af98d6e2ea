/- The statement PageSealed: bytes of a page with any twelve first ones and any others are opened, once their sum is set right, just if they are in form; then they are packed as they were. No conditions. -/
import Derived.Test.YtgpjhcpiemdbcaaRows
import Derived.Test.YtgpjhcpiemdbcaaOpen
import Derived.Test.YtgpjhcpiemdbcaaPgT
import Derived.Test.YtgpjhcpiemdbcaaSame
import Derived.WalkKit
import Derived.StillTailTactics
import Derived.ProofKit
import Derived.OpenShut
import Derived.ShutString
import Derived.ChangeOld
import Derived.Below
import Derived.SizedLaws
import Derived.JoinedCond
namespace Go.Proofs.Ytgpjhcpiemdbcaa.pageSealed
open Go.ChangeShapes Go.WideShapes Go.ChangeAt Go.RowKit
open Go.ChangeMaps (open_string shut_string)
set_option linter.unusedVariables false

theorem own : ownKnob Try.prog.godebug = none := by kernel_rfl
theorem laidOut : laidOutB Try.prog = true := by kernel_rfl
theorem bytes_u8 : Try.prog.bytesOf 5 = 1 := by kernel_rfl

def sealTo (l D : List UInt8) (k : Nat) : List UInt8 := splice l 8 (D.take k)
theorem sealTo_length (l D : List UInt8) (k : Nat) (hl : l.length = 256) (hD : D.length = 4) (hk : k ≤ 4) : (sealTo l D k).length = 256 := by
  unfold sealTo
  rw [splice_length _ _ _ (by rw [List.length_take]; omega), hl]
theorem sealTo_zero (l D : List UInt8) : sealTo l D 0 = l := by simp [sealTo, splice]
theorem sealTo_succ (l D : List UInt8) (k : Nat) (hl : l.length = 256) (hD : D.length = 4) (hk : k < 4) : (sealTo l D k).set (8 + k) (D[k]'(by omega)) = sealTo l D (k + 1) := by
  unfold sealTo splice
  have h8 : (l.take 8).length = 8 := by rw [List.length_take]; omega
  have hk1 : (D.take k).length = k := by rw [List.length_take]; omega
  have hk2 : (D.take (k + 1)).length = k + 1 := by rw [List.length_take]; omega
  rw [hk1, hk2, List.set_append_right _ _ (by omega), h8, Nat.add_sub_cancel_left, List.set_append_right _ _ (by omega), hk1, Nat.sub_self]
  rw [List.drop_eq_getElem_cons (show 8 + k < l.length by omega), List.set_cons_zero, List.take_succ_eq_append_getElem (show k < D.length by omega), List.append_assoc, List.singleton_append]
  rfl
theorem sealTo_step (l D : List UInt8) (k : Nat) (x : UInt8) (hl : l.length = 256) (hD : D.length = 4) (hx : D[k]? = some x) : (sealTo l D k).set (8 + k) x = sealTo l D (k + 1) := by
  obtain ⟨hk, rfl⟩ := List.getElem?_eq_some_iff.1 hx
  exact sealTo_succ l D k hl hD (by omega)
theorem sealed_sum (l : List UInt8) (hl : l.length = 256) : num (seg (sealTo l (digs (pgSum l) 4) 4) 8 4) = pgSum (sealTo l (digs (pgSum l) 4) 4) := by
  have e : sealTo l (digs (pgSum l) 4) 4 = splice l 8 (digs (pgSum l) 4) := by
    unfold sealTo
    rw [List.take_of_length_le (by rw [digs_length]; omega)]
  rw [e, seg_splice l _ hl (digs_length _ _), num_digs_lt _ _ (by have := pgSum_lt l; omega)]
  unfold pgSum
  rw [bare_splice l _ hl (digs_length _ _)]
theorem not_five {no : Int} {l : List UInt8} (h : num (seg l 8 4) = pgSum l) : (mOpen no l).2.2 ≠ 5 := by
  unfold mOpen
  split
  · simp
  split
  · simp
  split
  · rename_i h1; exact absurd h h1
  split
  · simp
  split <;> simp
set_option maxRecDepth 100000 in
set_option maxHeartbeats 1600000 in
theorem walk (no : Int) (A : Option Addr) (l : List UInt8) (c : Nat) (w : World) (hn : (Lit.int .i64 no).wf = true) (hlc : l.length ≤ c) (_hcm : c ≤ maxLen) (hr : Reads w w.heap.size 1 A l.length (bv l)) (hre : l.length ≤ 140737488351232) :
    Calls Try.prog 5 #[.int .i64 no, .slice A l.length c] w fun e w' => e = .returned (.bool true) ∧ Below w.heap.size w w' := by
  have hn2 := bounds_i64 hn
  by_cases h256 : l.length = 256
  · obtain ⟨b, off, rfl, hbB, -⟩ := hr.form (by omega)
    have hlen : (l.length : Int) = 256 := by omega
    rw [h256] at hlc
    have hc8 : (8 : Int) ≤ (c : Int) := by omega
    have hc12 : ¬ c = 12 := by omega
    have h8 := seg_length l 0 8 (by omega)
    have h12 := seg_length l 12 244 (by omega)
    have hr8 := fun W (hW : Below w.heap.size w W) => reads_seg (hr.over hW) 0 8 (by omega)
    simp only [Nat.add_zero] at hr8
    have hcp := fun W (hW : Below w.heap.size w W) => copy_any (seg l 0 8) (some ⟨b, off, none⟩) w.heap.size c W (by rw [h8]; omega) (hr8 W hW)
    rw [h8] at hcp
    have HCp := Lib.hid hcp
    have hcl := fun W (hW : Below w.heap.size w W) => copy_any l (some ⟨b, off, none⟩) w.heap.size c W (by omega) (hr.over hW)
    rw [h256] at hcl
    have HCl := Lib.hid hcl
    have HR12 := Lib.hid (fun W (hW : Below w.heap.size w W) => (reads_seg (hr.over hW) 12 244 (by omega)).more hW.size)
    have H12 := Lib.hid h12
    have H8 := Lib.hid h8
    have hbare := bare_seg h256
    have hbl : (bare l).length = 252 := by rw [← hbare, List.length_append, h8, h12]
    have HBare := Lib.hid hbare
    have HBl := Lib.hid hbl
    have hof : ∀ (W : World) base A c, Own W base (.slice A 252 c) (bare l) → Calls Try.prog 18 #[.slice A 252 c] W fun e w' => e = .returned (.int .u32 (pgSum l)) ∧ W = w' := fun W base A c ho => by
      have := refOf_any (bare l) A W.heap.size c W (by rw [hbl]; omega) ho.reads
      rw [hbl] at this
      exact this
    have HOf := Lib.hid hof
    have hslt := pgSum_lt l
    have hbs := fun W => refBytes_digs (pgSum l) 4 4 W rfl (by omega) (by omega) (by omega) (by omega)
    have HBs := Lib.hid hbs
    have HDS := Lib.hid (digs_length (pgSum l) 4)
    have HSe := Lib.hid (sealed_sum l h256)
    have HSl := Lib.hid (fun k hk => sealTo_length l (digs (pgSum l) 4) k h256 (digs_length _ _) hk)
    have HSs := Lib.hid (fun k x hx => sealTo_step l (digs (pgSum l) 4) k x h256 (digs_length _ _) hx)
    generalize digs (pgSum l) 4 = D at *
    have hws : IntKind.i64.wrap (pgSum l : Int) = (pgSum l : Int) := IntWalk.i64_in _ (by omega)
    generalize pgSum l = s at *
    have HN := Lib.hid hn2
    clear hcp hr8 h12 h8 hbare hbl hr hcl hof hslt hbs hn hn2
    go_enter Try.func5, Try.ntmps5
    go_wp2_with (first
      | (go_at_call 11; refine (awake_any w).mono ?_; rintro e w1 ⟨rfl, hb1⟩; have HB1 := Lib.hid hb1; clear hb1)
      | (go_at_call 16; refine (HCl.out w1 HB1.out).mono ?_; rintro e w2 ⟨v2, rfl, ho2, hb2⟩; have ho2' : Own w2 w1.heap.size v2 l := (by unfold Own; rw [h256]; exact ho2); have HB2 := Lib.hid (HB1.out.trans (hb2.mono HB1.out.size)); obtain ⟨A2, c2, hv2, -, -, -⟩ := ho2'.form_n h256; subst hv2; have HO2 := Lib.hid ho2'; have HS12 := Lib.hid hb2.size; clear ho2 ho2' hb2)
      | fail)
    go_region_law (first
      | (refine step_app rfl (.tmp 30) (.tmp 32) rfl w2.heap.size v3 (seg l 0 8) rfl H3.out (some ⟨b, off + 12, none⟩) (seg l 12 244) 244 (c - 12) H12.out rfl (HR12.out w3 HB3.out) (by rw [H8.out, H12.out]; decide) HS3.out ?_; intro v4 w4 h4)
      | (go_simp; go_at_call 16; refine (HCp.out w2.drew HB2.out.drew).mono ?_; rintro e w3 ⟨v3, rfl, ho3, hb3⟩; have H3 : Hid (Own w3 w2.heap.size v3 (seg l 0 8)) := Lib.hid (by unfold Own; rw [H8.out]; exact ho3); have HB3 := Lib.hid (HB2.out.drew.trans (hb3.mono HB2.out.size)); have HS3 := Lib.hid hb3.size; have HB23 : Hid (Below w2.heap.size w2.drew w3) := Lib.hid hb3; clear ho3 hb3)
      | fail)
    have h4a := h4.out.1
    rw [HBare.out] at h4a
    obtain ⟨A4, c4, hv4, -, -, -⟩ := h4a.form_n HBl.out
    subst hv4
    have H4 := Lib.hid h4a
    have HB24 : Hid (Below w2.heap.size w2 w4) := Lib.hid ((Below.refl w2.heap.size w2).drew.trans ((HB23.out).trans h4.out.2.2.1))
    have HB4 := Lib.hid (HB2.out.trans (HB24.out.mono HB2.out.size))
    clear h4a h4
    go_wp2_with (first
      | (go_at_call 18; refine (HOf.out _ _ _ _ H4.out).mono ?_; rintro e w4' ⟨rfl, rfl⟩)
      | (go_at_call 17; refine (HBs.out _).mono ?_; rintro e w5 ⟨A5, c5, rfl, ho5, hr5, hc5, hb5⟩; have HO5 := Lib.hid ho5; have HB25 := Lib.hid (HB24.out.trans (hb5.mono HB24.out.size)); clear ho5 hr5 hb5)
      | fail)
    have HS24 := Lib.hid HB24.out.size
    go_loopw [9] (fun i wr => ∃ k : Nat, k ≤ 4 ∧ i = .int .i64 k ∧ Hid (Own wr w1.heap.size (.slice A2 256 c2) (sealTo l D k)) ∧ Hid (Own wr w2.heap.size (.slice A5 4 c5) D) ∧ Hid (Below w1.heap.size w2 wr)) (fun i _ => 4 - (intOf i).toNat)
    case atStart => exact ⟨0, by omega, rfl, by rw [sealTo_zero]; exact HO2.out.below HB25.out, HO5.out.lower HS24.out, HB25.out.mono HS12.out⟩
    case round =>
      obtain ⟨k, hk, rfl, HO, HOD, HB⟩ := hrel
      by_cases hlt : k < 4
      · obtain ⟨g, cur, rfl, hbg, -, -, -, -, -, -⟩ := HO.out.row (by omega)
        obtain ⟨g5, cur5, rfl, hbg5, -, -, -, -, -, -⟩ := HOD.out.row (by omega)
        have hls := HSl.out k (by omega)
        obtain ⟨hcell, hfro, hglt⟩ := HO.out.at_ (k := 8 + k) (by omega) hls
        obtain ⟨hcell5, hfro5, hglt5⟩ := HOD.out.at_ (k := k) (by omega) HDS.out
        have hx : D[k]? = some (D[k]'(by rw [HDS.out]; omega)) := List.getElem?_eq_getElem _
        have hset := HO.out.set (k := 8 + k) (by omega) hls (D[k]'(by rw [HDS.out]; omega))
        rw [HSs.out k _ hx] at hset
        have hne : g5 ≠ g := fun e => by
          have a1 := HO2.out.lt g rfl
          omega
        have hi : (k : Int) < 4 := by omega
        have hi0 : (0 : Int) ≤ (k : Int) := by omega
        have hi8 : (8 : Int) + (k : Int) < 256 := by omega
        have hod := HOD.out.only ((Only.refl (fun q => q = g) wr).setCell (p := ⟨g, 8 + k, none⟩) (.inl rfl) (.int .u8 ((D[k]'(by rw [HDS.out]; omega)).toNat : Int))) (fun q e => by injection e with e; subst e; exact hne)
        have HSet := Lib.hid hset
        have HOD' := Lib.hid hod
        have HB' : Hid (Below w1.heap.size w2 (wr.setCell ⟨g, 8 + k, none⟩ (.int .u8 ((D[k]'(by rw [HDS.out]; omega)).toNat : Int)))) := Lib.hid (HB.out.setCell hbg _)
        generalize D[k]'(by rw [HDS.out]; omega) = x at *
        generalize hold : (sealTo l D k)[8 + k]'(by rw [hls]; omega) = y at *
        clear hset hod hx hold hls HO HOD HB
        go_wp2_with fail
        go_roundw
        case rel => exact ⟨k + 1, by omega, by go_num, HSet.out, HOD'.out, HB'.out⟩
        case measure => simp [intOf]; omega
      · obtain rfl : k = 4 := by omega
        have hl4 := HSl.out 4 (by omega)
        have hop := fun W B A c (hr : Reads W B 1 A (sealTo l D 4).length (bv (sealTo l D 4))) => open_read no (sealTo l D 4) W B A c (by omega) hr
        have hrop := fun W B A c (h1 : (sealTo l D 4).length ≤ c) (hr : Reads W B 1 A (sealTo l D 4).length (bv (sealTo l D 4))) => refOpen_read no (sealTo l D 4) W B A c HN.out h1 hr
        conv at hop => intro W B A c hr; arg 3; rw [hl4]
        conv at hrop => intro W B A c h1 hr; arg 3; rw [hl4]
        have hr4 := HO.out.reads
        have hc2 : 256 ≤ c2 := by
          obtain ⟨_, _, _, _, _, _, h, _⟩ := HO.out.row (by omega)
          exact h
        have HC2 := Lib.hid hc2
        have hfive := not_five (no := no) HSe.out
        have hzero := @mOpen_zero no (sealTo l D 4)
        have hgood : (mOpen no (sealTo l D 4)).2.2 = 0 → mPack no (mOpen no (sealTo l D 4)).1 (mOpen no (sealTo l D 4)).2.1 = (sealTo l D 4, 0) := fun h0 => by
          obtain ⟨a1, a2, a3, a4, a5, a6, a7⟩ := mOpen_ok h0
          rw [a7]
          unfold mPack
          rw [if_neg (by simp only [not_or]; exact ⟨not_not_intro a1, not_not_intro a4⟩), if_neg (by rw [pgBody_length a2 a5]; omega)]
          simp only [Int.toNat_natCast]
          rw [a6]
        have hbl244 := mOpen_len no (sealTo l D 4)
        generalize mOpen no (sealTo l D 4) = R at *
        obtain ⟨k2, b2, e2⟩ := R
        simp only at hop hrop hfive hzero hgood hbl244
        have HOp := Lib.hid hop
        have HRop := Lib.hid hrop
        have HL4 := Lib.hid hl4
        have hB0 := Lib.hid (HB2.out.trans (HB.out.mono (Nat.le_trans HB1.out.size (Nat.le_refl _))))
        generalize sealTo l D 4 = L at *
        have hfive' : ((e2 : Int) == 5) = false := by rw [beq_eq_false_iff_ne]; omega
        have hpk := fun W B A c hr => pack_read no k2 b2 W B A c (by omega) hr
        clear hop hrop hr4 hl4 hfive hc2
        by_cases he : e2 = 0
        · have hg := hgood he
          rw [hg] at hpk
          simp only [HL4.out] at hpk
          subst he
          have HPk := Lib.hid hpk
          clear hpk hg hgood hzero
          go_wp2_with (first
            | (go_at_call 14; refine (HOp.out wr _ _ c2 HO.out.reads).mono ?_; rintro e w6 ⟨A6, c6, rfl, ho6, hb6⟩; have HO6 := Lib.hid ho6; have HB6 := Lib.hid hb6; clear ho6 hb6)
            | (go_at_call 15; refine (HRop.out w6 _ _ c2 (by rw [HL4.out]; exact HC2.out) (HO.out.below HB6.out).reads).mono ?_; rintro e w7 ⟨A7, c7, rfl, -, hb7⟩; have HB7 := Lib.hid (HB6.out.trans (hb7.mono HB6.out.size)); have HB67 := Lib.hid hb7; clear hb7)
            | (go_at_call 9; refine (HPk.out w7 _ _ c6 (HO6.out.below HB67.out).reads).mono ?_; rintro e w8 ⟨A8, c8, rfl, hr8, hb8⟩; have HR8 := Lib.hid hr8; have HB8 := Lib.hid (HB7.out.trans (hb8.mono HB7.out.size)); clear hr8 hb8)
            | (go_at_call 12; refine (same_n (l := L) (m := L) _ _ c8 c2 256 256 HL4.out HL4.out (by unfold maxLen; omega) (by unfold maxLen; omega) (by have := HR8.out; rw [HL4.out]; exact this) (HO.out.below HB8.out).reads).mono ?_; rintro e w9 ⟨he9, hb9⟩; rw [decide_eq_true rfl] at he9; subst he9)
            | fail)
          go_ret
          exact ⟨rfl, hB0.out.trans ((HB8.out.trans (hb9.mono HB8.out.size)).mono hB0.out.size)⟩
        · obtain ⟨hz1, hz2⟩ := hzero he
          subst hz1 hz2
          have hne0 : ((e2 : Int) != 0) = true := by rw [bne_iff_ne]; omega
          clear hpk hgood hzero he
          go_wp2_with (first
            | (go_at_call 14; refine (HOp.out wr _ _ c2 HO.out.reads).mono ?_; rintro e w6 ⟨A6, c6, rfl, ho6, hb6⟩; have HO6 := Lib.hid ho6; have HB6 := Lib.hid hb6; clear ho6 hb6)
            | (go_at_call 15; refine (HRop.out w6 _ _ c2 (by rw [HL4.out]; exact HC2.out) (HO.out.below HB6.out).reads).mono ?_; rintro e w7 ⟨A7, c7, rfl, -, hb7⟩; have HB7 := Lib.hid (HB6.out.trans (hb7.mono HB6.out.size)); have HB67 := Lib.hid hb7; clear hb7)
            | fail)
          go_ret
          exact ⟨rfl, hB0.out.trans (HB7.out.mono hB0.out.size)⟩
  · have hne : ((l.length : Int) != 256) = true := by rw [bne_iff_ne]; omega
    clear h256 hr hlc hn2 hn
    go_enter Try.func5, Try.ntmps5
    go_wp2_with (first
      | (go_at_call 11; have m0 := HB2; refine (awake_any w1).mono ?_; rintro e w2 ⟨rfl, hb2⟩)
      | (go_at_call 11; refine (awake_any w).mono ?_; rintro e w1 ⟨rfl, hb1⟩; have HB2 := Lib.hid hb1; clear hb1)
      | fail)
    go_ret
    exact ⟨rfl, HB2.out.trans (hb2.mono HB2.out.size)⟩

set_option maxRecDepth 100000 in
theorem lifted (os : Os) (started : os.Started) (H : Type) (enc : TypeId × Value → H) :
    ReturnsInHanded {} Try.checked os 5 .any (Rows.pageSealedSpec.pre6 enc Try.prog Try.f5 Rows.pageSealedRow.domain false) (Rows.pageSealedSpec.post enc Try.prog Try.f5 false true false false) := by
  refine returnsInHanded_of_change_sized (C := Try.checked) own started (by kernel_rfl) Try.func5
    (ChangeSpec.witness6 (enc := enc) (C := Try.checked) false ⟨#[], #[.int .i64 0, .slice none 0 0], []⟩ 8 (by kernel_rfl) (by kernel_rfl) (by kernel_rfl) (by kernel_rfl)) ?_
  intro W base args ds gs before hval0 hW hcnd hsz0 _
  have hsz : (DataW.weightsEach Try.prog (Try.f5.params.toList ++ Rows.pageSealedSpec.plain.varTypes Try.prog) (ds ++ gs)).all (· ≤ reachBytes) = true := hsz0
  have hval : ∀ (j : Nat) t v, Try.f5.params[j]? = some t → args[j]? = some v → Value.okWide Try.prog W .any base t v := hval0
  have hW' := hW
  obtain ⟨p, q, hA0, hV, rfl, hfz, hnd⟩ := hW
  have hA : DataW.TrodAll enc Try.prog W 0 (fun _ => true) true Try.f5.params.toList args.toList ds p := hA0
  rw [Try.params5] at hA hval hsz
  obtain ⟨v0, vs0, d0, ds0, p0, q0, hargs, rfl, rfl, h0, r0⟩ := trodAll_cons hA
  obtain ⟨v1, vs1, d1, ds1, p1, q1, rfl, rfl, rfl, h1, r1⟩ := trodAll_cons r0
  obtain ⟨rfl, rfl, rfl⟩ := trodAll_nil r1
  obtain rfl : args = #[v0, v1] := by cases args; simp_all
  obtain ⟨rfl, rfl⟩ := trodVars_none hV
  obtain ⟨a0, rfl, rfl, rfl, w0⟩ := open_int Try.underlying3 (hval 0 3 v0 rfl rfl) h0
  have k1 := h1
  have lt1 : ∀ x ∈ p1, x.block < W.heap.size := by obtain ⟨m, hm⟩ := k1; exact DataW.trod_lt m _ _ _ hm
  obtain ⟨A1, l1, c1, rfl, hlc1, hcm1, hr1, hln1⟩ := open_bytes Try.underlying22 Try.underlying5 (by kernel_rfl) (hval 1 22 v1 rfl rfl) h1
  have hre1 := reach_bytes hsz (j := 1) rfl rfl Try.underlying22 bytes_u8 hln1
  clear hA0 hval0 hsz0
  refine (walk a0 A1 l1 c1 W w0 hlc1 hcm1 hr1 hre1).mono fun e W' ⟨he, bel⟩ => ?_
  subst he
  exact ⟨_, rfl, _, _, _, [], _, [], hW', trodAll_mk1 (shut_bool Try.underlying4 _), (trodAll_cons_mk (shut_int Try.underlying3 w0) (trodAll_cons_mk (Below.trod laidOut (by kernel_rfl) (of_decide_eq_true (by kernel_rfl)) k1 bel lt1) trodAll_mk0)), rfl, bel.frame _, fun h => by cases h⟩

theorem over : Rows.pageSealedRow.holds Try.pinned (OpenSpec.ofChange Rows.pageSealedSpec) :=
  OpenClaim.holds_of_wide 5 Try.f5 rfl rfl rfl rfl rfl rfl rfl ⟨rfl, rfl, rfl, rfl, rfl⟩ rfl rfl rfl rfl rfl (by kernel_rfl) Try.func5 (by kernel_rfl)
    (of_decide_eq_true (by kernel_rfl)) (by unfold Func.isWrapper; first | (rw [if_pos (by decide +kernel)]; kernel_rfl) | (rw [if_neg (by decide +kernel)]; exact ⟨rfl, rfl⟩))
    (fun os started H enc _ => lifted os started H enc)

/-- The statement. -/
theorem proved : Rows.PageSealedSaid := over
#print axioms proved
end Go.Proofs.Ytgpjhcpiemdbcaa.pageSealed
