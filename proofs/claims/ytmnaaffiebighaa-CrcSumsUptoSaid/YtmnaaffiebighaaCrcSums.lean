/- The statement CrcSums where what comes in is of bulk at most 1048576: the sum of bytes in any number of pieces is what the document says; the pieces stay. -/
import Derived.Test.YtmnaaffiebighaaRows
import Derived.Test.YtmnaaffiebighaaOpen
import Derived.Test.YtmnaaffiebighaaCrcC
import Derived.Test.YtmnaaffiebighaaLents
import Derived.Test.YtmnaaffiebighaaOpenP
import Derived.WalkKit
import Derived.StillTactics
import Derived.Deep.RegionHeld3
import Derived.ProofKit
import Derived.OpenShut
import Derived.ShutString
import Derived.ChangeOld
import Derived.Below
import Derived.SizedLaws
import Derived.JoinedCond
namespace Go.Proofs.Ytmnaaffiebighaa.crcSums
open Go.ChangeShapes Go.WideShapes Go.ChangeAt Go.RowKit
open Go.ChangeMaps (open_string shut_string)
set_option linter.unusedVariables false

theorem own : ownKnob Try.prog.godebug = none := by kernel_rfl
theorem laidOut : laidOutB Try.prog = true := by kernel_rfl
theorem bytes_u8 : Try.prog.bytesOf 5 = 1 := by kernel_rfl

theorem slinfo : (Try.prog.info? 23).map (fun i => (i.zero, i.size, i.bytes)) = some (some (.slice none 0 0), 1, 24) := by kernel_rfl

set_option maxRecDepth 100000 in
set_option maxHeartbeats 1600000 in
theorem walk (A : Option Addr) (ps : List Part) (c : Nat) (w : World) (_hlc : ps.length ≤ c) (hcm : c ≤ maxLen) (hr : Reads w w.heap.size 1 A ps.length (pvs ps)) (hp : PartsRead w w.heap.size ps) (hbk : (flat ps).length + ps.length ≤ 1048576) :
    Calls Try.prog 3 #[.slice A ps.length c] w fun e w' => e = .returned (.bool true) ∧ Below w.heap.size w w' := by
  obtain ⟨i0, hi0, hz0, hz1, hz2⟩ := info_parts u8info
  obtain ⟨i1, hi1, hy0, hy1, hy2⟩ := info_parts slinfo
  have HR := Lib.hid hr
  have HP := Lib.hid hp
  clear hr hp _hlc hcm
  go_enter Try.func3, Try.ntmps3
  go_wp2
  go_loopw [3, 4, 5] (fun v3 v4 i wr => ∃ (k n3 : Nat) (qs : List Part), k ≤ ps.length ∧ i = .int .i64 k ∧ Hid (n3 = (flat (ps.take k)).length) ∧ wr.ownsRow w.heap.size 5 1 v3 n3 (bv (flat (ps.take k))) ∧
      wr.ownsRow w.heap.size 23 1 v4 k (pvs qs) ∧ Lents wr w.heap.size v3 ps qs k ∧ Below w.heap.size w wr) (fun _ _ i _ => ps.length - (intOf i).toNat)
  case atStart => exact ⟨0, 0, [], Nat.zero_le _, rfl, by simp [Hid, flat], own_nil _ _ _ _, own_nil _ _ _ _, ⟨rfl, fun j q hq => by simp at hq⟩, Below.refl _ _⟩
  case round =>
    obtain ⟨k, n3, qs, hk, rfl, HN, hown3, hown4, hlents, hbel⟩ := hrel
    by_cases hlt : k < ps.length
    · obtain ⟨b, off, rfl, hbB, hc⟩ := (HR.out.below hbel).form (by omega)
      have hx := hc k _ (pvs_get ps k hlt)
      have hi : (k : Int) < (ps.length : Int) := by omega
      have hpk : ps[k]? = some ps[k] := List.getElem?_eq_getElem hlt
      obtain ⟨hrk, hlk⟩ := HP.out k _ hpk
      have hfl := flat_length_take ps k hlt
      have HF := Lib.hid (flat_take ps k hlt)
      have HPK := Lib.hid hpk
      clear hpk
      generalize ps[k] = p at *
      obtain ⟨A', l, c'⟩ := p
      simp only at hrk hlk hx HF hfl
      have hrk1 := hrk.below hbel
      have hn3 : n3 + l.length ≤ 1048576 := by have := HN.out; omega
      have HRK := Lib.hid hrk1
      have HL := Lib.hid hlents
      have H4 := Lib.hid hown4
      have H3 := Lib.hid hown3
      have HB := Lib.hid hbel
      have hbs := hbel.size
      clear hc hrk hrk1 hlents hown4 hown3 hbel hfl
      go_wp2_with (at_builtin; refine wpList_append_any _ rfl (.tmp 13) (.tmp 17) _ rfl w.heap.size 5 i0 _ 1 1 Try.underlying23 hi0 hz0 hz1 hz2 rfl (by omega) _ n3 _ rfl H3.out w.heap.size A' l.length c' (bv l) rfl HRK.out (bv_one l) ?h2 ?h3 hbs ?_)
      case h2 => unfold maxLen; omega
      case h3 => omega
      intro v3' w1 hown3' hgrow3 hat3
      have hbel1 := HB.out.grown hgrow3 hbs (own_ge H3.out)
      have hs1 := hbel1.size
      have HL1 := Lib.hid (HL.out.longer hgrow3 hat3)
      have hne34 : u4.ownBlock = none ∨ u4.ownBlock ≠ u3.ownBlock := by
        rcases h4 : u4.ownBlock with _ | g
        · exact .inl rfl
        · right
          intro e
          obtain ⟨g', cap, cur, e1, e2, e3⟩ : ∃ g cap cur, u3 = .slice (some ⟨g, 0, none⟩) n3 cap ∧ u3.ownBlock = some g ∧ Blk wr g 5 cur := by
            rcases H3.out.2 with ⟨h0, _⟩ | ⟨g, cap, cur, h0, _, h2, _⟩
            · rw [h0] at e; cases e
            · exact ⟨g, cap, cur, h0, by rw [h0]; rfl, h2⟩
          exact own_blk_ne H4.out e3 (by decide) (by rw [h4, e, e2])
      have H41 := Lib.hid (H4.out.kept hgrow3 hne34)
      have H31 := Lib.hid hown3'
      have hrk1 := HP.out k _ HPK.out
      have HRK1 := Lib.hid (hrk1.1.below hbel1)
      obtain ⟨b1, off1, e1, hb1, hc1⟩ := (HR.out.below hbel1).form (by omega)
      obtain ⟨rfl, rfl⟩ : b1 = b ∧ off1 = off := by simpa using e1.symm
      have hx1 := hc1 k _ (pvs_get ps k hlt)
      have hpe : ps[k] = (A', l, c') := by have := HPK.out; rw [List.getElem?_eq_getElem hlt] at this; injection this
      rw [hpe] at hx1
      have HB1 := Lib.hid hbel1
      clear hx e1 hc1 hrk1 hown3' hgrow3 hat3 hne34 hbel1 H3 H4 HL HRK HB hpe hb1
      go_wp2_with fail
      refine (lent_any l A' _ c' _ (by omega) HRK1.out).mono ?_
      rintro e w2 ⟨v, rfl, hlent, hb2⟩
      obtain ⟨gv, capv, curv, rfl, hgv, hlrest⟩ := hlent
      have hlent : LentAt w2 w1.heap.size (.slice (some ⟨gv, 0, none⟩) l.length capv) l := ⟨gv, capv, curv, rfl, hgv, hlrest⟩
      have hs2 := hb2.size
      have H42 := Lib.hid (H41.out.kept (only_of_below hb2 none) (by rcases u4.ownBlock with _ | g <;> simp))
      have H32 := Lib.hid (H31.out.kept (only_of_below hb2 none) (by rcases v3'.ownBlock with _ | g <;> simp))
      have HL2 := Lib.hid (HL1.out.call hb2)
      have hvne : v3'.ownBlock ≠ some gv := by
        intro e
        have := (H31.out.lt _ e).2
        omega
      have HLE := Lib.hid hlent
      have HB2 := Lib.hid (HB1.out.trans (hb2.mono hs1))
      clear hlent hlrest hb2 H41 H31 HL1 HB1 HRK1 hx1
      go_wp2_with (at_builtin; refine wpList_append_own _ rfl (.tmp 19) (.tmp 25) 22 rfl w.heap.size 23 i1 (.slice none 0 0) 1 24 Try.underlying22 hi1 hy0 hy1 hy2 rfl (by decide) u4 k (pvs qs) rfl (H42.out.alloc _) ⟨w2.heap.size, 0, none⟩ 1 1 [.slice (some ⟨gv, 0, none⟩) l.length capv] rfl rfl ?c1 ?c2 ?c3 ?c4 ?c5 ?_)
      case c1 => exact cells_new w2 23 [.slice (some ⟨gv, 0, none⟩) l.length capv]
      case c2 => intro u hu; simp at hu; subst hu; rfl
      case c3 => unfold maxLen; omega
      case c4 => omega
      case c5 => simp; omega
      intro v4' w3 hown4' hgrow4 hat4
      have hgw := hgrow4
      have HL3 := Lib.hid ((HL2.out.call ((Below.refl _ _).alloc (Nat.le_refl _) (.cells #[.slice (some ⟨gv, 0, none⟩) l.length capv] 23))).other hgrow4 (H42.out.alloc _) (by decide))
      have hle3 := (HLE.out.below ((Below.refl _ _).alloc (Nat.le_refl _) (.cells #[.slice (some ⟨gv, 0, none⟩) l.length capv] 23)))
      have hle4 : LentAt w3 w.heap.size (pval (some ⟨gv, 0, none⟩, l, capv)) l := by
        obtain ⟨g, cur, hg1, hg2, _⟩ := hle3.block
        exact (hle3.grown hgrow4 (by rw [hg1]; exact fun e' => own_blk_ne (H42.out.alloc _) hg2 (by decide) e'.symm)).base (by omega)
      have H33 : Hid (w3.ownsRow w.heap.size 5 1 v3' (n3 + l.length) (bv (flat (List.take k ps)) ++ bv l)) := by
        refine Lib.hid ((H32.out.alloc _).kept hgrow4 ?_)
        rcases h3 : v3'.ownBlock with _ | g
        · exact .inl rfl
        · right
          intro e
          rcases (H32.out.alloc (.cells #[.slice (some ⟨gv, 0, none⟩) l.length capv] 23)).2 with ⟨h0, _⟩ | ⟨g', cap', cur', h0, _, h2, _⟩
          · rw [h0] at h3; cases h3
          · have hg' : g' = g := by rw [h0] at h3; simpa [Value.ownBlock] using h3
            subst hg'
            exact own_blk_ne (H42.out.alloc _) (show Blk _ g' 5 cur' from h2) (by decide) e.symm
      have HL4 := Lib.hid (HL3.out.snoc (q := (some ⟨gv, 0, none⟩, l, capv)) HPK.out rfl hle4 (by simpa [pval, Value.ownBlock] using hvne))
      have hbel3 := (HB2.out.alloc (by omega) (.cells #[.slice (some ⟨gv, 0, none⟩) l.length capv] 23)).grown hgrow4 (by simp; omega) (own_ge H42.out)
      have H43 := Lib.hid hown4'
      have HB3 := Lib.hid hbel3
      clear hown4' hgrow4 hat4 hgw hle3 hle4 hbel3 HL3 HL2 H32 H42 HLE HB2 hvne
      go_wp2
      go_roundw
      case rel =>
        refine ⟨k + 1, n3 + l.length, qs ++ [(some ⟨gv, 0, none⟩, l, capv)], by omega, by go_num, ?_, ?_, ?_, HL4.out, HB3.out⟩
        · show n3 + l.length = _
          rw [HF.out, List.length_append, ← HN.out]
        · rw [HF.out, bv_append]
          exact H33.out
        · have e : pvs (qs ++ [(some ⟨gv, 0, none⟩, l, capv)]) = pvs qs ++ [.slice (some ⟨gv, 0, none⟩) l.length capv] := by simp [pvs]
          rw [e]
          exact H43.out
      case measure => simp [intOf]; omega
    · obtain rfl : k = ps.length := by omega
      have hfl := hlents.flat_eq
      have HQ := Lib.hid hlents.1
      have hpr := hlents.parts (by omega)
      obtain ⟨A3, c3, rfl, _, _, hr3, _⟩ := own_form hown3
      obtain ⟨A4, c4, rfl, _, _, hr4, _⟩ := own_form hown4
      have HR0 := Lib.hid (HR.out.below hbel).here
      have HP0 : Hid (PartsRead wr wr.heap.size ps) := Lib.hid (fun j q hq => ⟨((HP.out j q hq).1.below hbel).here, (HP.out j q hq).2⟩)
      have HL := Lib.hid hlents
      have HPR := Lib.hid hpr
      have HFL := Lib.hid hfl
      rw [List.take_length] at hr3
      have HN' := HN.out
      rw [List.take_length] at HN'
      have HNN := Lib.hid HN'
      have hn3 : n3 ≤ 1048576 := by omega
      have hR3 := Lib.hid hr3
      have hR4 := Lib.hid hr4
      have HB := Lib.hid hbel
      clear hfl hpr hlents hr3 hr4 hbel HN HN' hown3 hown4 HR HP
      go_wp2_with fail
      refine (awake_any _).mono ?_
      rintro e w1 ⟨rfl, hb1⟩
      have HB1 := Lib.hid (HB.out.trans (hb1.mono HB.out.size))
      have HR1 := Lib.hid (HR0.out.below hb1).here
      have HP1 : Hid (PartsRead w1 w1.heap.size ps) := Lib.hid (fun j q hq => ⟨((HP0.out j q hq).1.below hb1).here, (HP0.out j q hq).2⟩)
      have HL1 := Lib.hid (HL.out.call hb1)
      have HPR1 : Hid (PartsRead w1 w1.heap.size qs) := Lib.hid (fun j q hq => ⟨((HPR.out j q hq).1.below hb1).here, (HPR.out j q hq).2⟩)
      have HA3 := Lib.hid (hR3.out.below hb1).here
      have HA4 := Lib.hid (hR4.out.below hb1).here
      clear hb1 HB HR0 HP0 HL HPR hR3 hR4
      have hof := of_any qs A4 _ c4 w1 (by have := HQ.out; omega) (by rw [HQ.out]; exact HA4.out) HPR1.out
      rw [HQ.out, HFL.out] at hof
      have HOF := Lib.hid hof
      clear hof
      go_wp2_with fail
      refine HOF.out.mono ?_
      rintro e w2 ⟨rfl, rfl⟩
      have hrf := refOf_any (flat ps) A3 _ c3 w1 (by omega) (by rw [← HNN.out]; exact HA3.out)
      rw [← HNN.out] at hrf
      have HRF := Lib.hid hrf
      clear hrf HOF
      go_wp2_with fail
      refine HRF.out.mono ?_
      rintro e w2 ⟨rfl, rfl⟩
      clear HRF HNN HFL HPR1 HA3
      generalize sumOf (flat ps) = r at *
      have hne : ((r : Int) != (r : Int)) = false := by rw [bne_eq_false_iff_eq]
      go_wp2_with fail
      clear hne
      go_loopw [6] (fun i wx => ∃ k : Nat, k ≤ ps.length ∧ i = .int .i64 k ∧ Below w1.heap.size w1 wx) (fun i _ => ps.length - (intOf i).toNat)
      case atStart => exact ⟨0, Nat.zero_le _, rfl, Below.refl _ _⟩
      case round =>
        obtain ⟨k, hk, rfl, hbx⟩ := hrel
        by_cases hlt : k < ps.length
        · obtain ⟨b, off, rfl, hbB, hc⟩ := (HR1.out.below hbx).form (by omega)
          obtain ⟨b', off', rfl, hbB', hc'⟩ := (HA4.out.below hbx).form (by omega)
          have hx := hc k _ (pvs_get ps k hlt)
          have hq : k < qs.length := by have := HQ.out; omega
          have hx' := hc' k _ (pvs_get qs k hq)
          have hi : (k : Int) < (ps.length : Int) := by omega
          have k0 : (0 : Int) ≤ (k : Int) := by omega
          obtain ⟨p, e1, e2, e3, _⟩ := HL1.out.2 k _ (List.getElem?_eq_getElem hq)
          have hpe : ps[k] = p := by rw [List.getElem?_eq_getElem hlt] at e1; injection e1
          obtain ⟨hrk, hlk⟩ := HP1.out k p e1
          have hfl := flat_length_take ps k hlt
          have hqv : Value.slice qs[k].1 qs[k].2.1.length qs[k].2.2 = pval qs[k] := rfl
          rw [hpe] at hx hfl
          rw [hqv] at hx'
          obtain ⟨A', l, c'⟩ := p
          simp only at hrk hlk hx hfl e3
          have hll : l.length ≤ 140737488355325 := by omega
          have HE3 := Lib.hid (e3.below hbx)
          have HRK := Lib.hid (hrk.below hbx)
          have hlx := lt_of_cell hx
          have hlx' := lt_of_cell hx'
          simp only at hlx hlx'
          generalize pval qs[k] = v at *
          clear hqv hc hc' e1 e2 e3 hpe hrk hlk hfl
          have HB2 := Lib.hid hbx
          clear hbx
          go_wp2_with fail
          go_region_held3 (fun w' => Below wr.heap.size wr w' ∧ w'.cell? ⟨b, off + k, none⟩ = some (.slice A' l.length c') ∧ w'.cell? ⟨b', off' + k, none⟩ = some v)
            (first
              | exact ⟨(Below.refl _ _).drew, hx, hx'⟩
              | exact ⟨hbK, (hbK.cell (p := ⟨b, off + k, none⟩) hlx).trans hx, (hbK.cell (p := ⟨b', off' + k, none⟩) hlx').trans hx'⟩
              | go_keep)
            (first
              | (go_at_call 14; refine (kept_any l v A' _ c' _ wr.drew hll HE3.out HRK.out).mono ?_; rintro e w2 ⟨rfl, hb0⟩; have hbK : Below wr.heap.size wr w2 := ((Below.refl wr.heap.size wr).drew).trans hb0)
              | fail)
          go_wp2
          go_roundw
          case rel => exact ⟨k + 1, by omega, by go_num, HB2.out.trans (hbK.mono HB2.out.size)⟩
          case measure => simp [intOf]; omega
        · obtain rfl : k = ps.length := by omega
          go_wp2
          go_ret
          exact ⟨rfl, HB1.out.trans (hbx.mono HB1.out.size)⟩

theorem contract (H : Type) (enc : TypeId × Value → H) (W : World) (base : Nat) (args : Array Value) (ds gs : List (DataW H)) (before : List MemPlace)
    (hval0 : ∀ (j : Nat) t v, Try.f3.params[j]? = some t → args[j]? = some v → Value.okWide Try.prog W .any base t v)
    (hW : DataW.Whole enc Try.prog Try.f3.params.toList Rows.crcSumsSpec.vars false W args.toList ds gs before) (hk : Rows.uptoSmall H (ds ++ gs) = true) :
    Calls Try.prog 3 args W fun e W' => ∃ v, e = .returned v ∧ Rows.crcSumsSpec.post enc Try.prog Try.f3 false true false false W args v W' := by
  have hval : ∀ (j : Nat) t v, Try.f3.params[j]? = some t → args[j]? = some v → Value.okWide Try.prog W .any base t v := hval0
  have hW' := hW
  obtain ⟨p, q, hA0, hV, rfl, hfz, hnd⟩ := hW
  have hA : DataW.TrodAll enc Try.prog W 0 (fun _ => true) true Try.f3.params.toList args.toList ds p := hA0
  rw [Try.params3] at hA hval
  obtain ⟨v0, vs0, d0, ds0, p0, q0, hargs, rfl, rfl, h0, r0⟩ := trodAll_cons hA
  obtain ⟨rfl, rfl, rfl⟩ := trodAll_nil r0
  obtain rfl : args = #[v0] := by cases args; simp_all
  obtain ⟨rfl, rfl⟩ := trodVars_none hV
  have k0 := h0
  have lt0 : ∀ x ∈ p0, x.block < W.heap.size := by obtain ⟨m, hm⟩ := k0; exact DataW.trod_lt m _ _ _ hm
  obtain ⟨A0, ps0, c0, rfl, hlc0, hcm0, hr0, hpr0, hbk0⟩ := open_parts Try.underlying22 Try.underlying23 Try.underlying5 (by kernel_rfl) (by kernel_rfl) (hval 0 22 v0 rfl rfl) h0
  clear hA0 hval0
  refine (walk A0 ps0 c0 W hlc0 hcm0 hr0 hpr0 (parts_upto hk (by simp) hbk0)).mono fun e W' ⟨he, bel⟩ => ?_
  subst he
  exact ⟨_, rfl, _, _, _, [], _, [], hW', trodAll_mk1 (shut_bool Try.underlying4 _), (trodAll_cons_mk (Below.trod laidOut (by kernel_rfl) (of_decide_eq_true (by kernel_rfl)) k0 bel lt0) trodAll_mk0), rfl, bel.frame _, fun h => by cases h⟩

set_option maxRecDepth 100000 in
theorem lifted (os : Os) (started : os.Started) (H : Type) (enc : TypeId × Value → H) (F : Stop.Interp) :
    ReturnsInHanded {} Try.checked os 3 .any ((Rows.OpenSpec.upto Rows.crcSumsSpec).pre6 enc Try.prog Try.f3 Rows.crcSumsUptoRow.domain false) (((Rows.OpenSpec.upto Rows.crcSumsSpec).at F).post enc Try.prog Try.f3 false true false false) := by
  refine returnsInHanded_of_cond (C := Try.checked) (s := Rows.OpenSpec.upto Rows.crcSumsSpec) (k := Rows.uptoSmall) rfl own started (by kernel_rfl) Try.func3
    (OpenSpec.witness (enc := enc) (C := Try.checked) (s := Rows.OpenSpec.upto Rows.crcSumsSpec) (k := Rows.uptoSmall) rfl false ⟨#[], #[.slice none 0 0], []⟩ 8 (by kernel_rfl) (by kernel_rfl) (by kernel_rfl)
      (x := ([.nil], [], [])) (by kernel_rfl) rfl (by kernel_rfl)) ?_
  intro W base args ds gs before hval hW _ hk _
  exact contract H enc W base args ds gs before hval hW hk

theorem over : Rows.crcSumsUptoRow.holds Try.pinned (Rows.OpenSpec.upto Rows.crcSumsSpec) :=
  OpenClaim.holds_of_cond 3 Try.f3 rfl rfl rfl rfl rfl rfl rfl ⟨rfl, rfl, rfl, rfl, rfl⟩ rfl rfl rfl rfl rfl (by kernel_rfl) Try.func3 (by kernel_rfl)
    (of_decide_eq_true (by kernel_rfl)) (by unfold Func.isWrapper; first | (rw [if_pos (by decide +kernel)]; kernel_rfl) | (rw [if_neg (by decide +kernel)]; exact ⟨rfl, rfl⟩))
    (fun os started H enc _ F => lifted os started H enc F)

/-- The statement, where what comes in is of bounded bulk. -/
theorem proved : Rows.CrcSumsUptoSaid := over
#print axioms proved
end Go.Proofs.Ytmnaaffiebighaa.crcSums
