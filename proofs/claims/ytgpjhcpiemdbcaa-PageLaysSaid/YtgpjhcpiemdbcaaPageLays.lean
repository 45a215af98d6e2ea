/- The statement PageLays: a page has 256 bytes: its kind first, its number from the fifth on, its body from the thirteenth on, and bytes 0 behind. No conditions. -/
import Derived.Test.YtgpjhcpiemdbcaaRows
import Derived.Test.YtgpjhcpiemdbcaaOpen
import Derived.Test.YtgpjhcpiemdbcaaPgT
import Derived.Test.YtgpjhcpiemdbcaaSame
import Derived.WalkKit
import Derived.StillTailTactics
import Derived.Deep.CutBlock
import Derived.Deep.CutRange
import Derived.ProofKit
import Derived.OpenShut
import Derived.ShutString
import Derived.ChangeOld
import Derived.Below
import Derived.SizedLaws
import Derived.JoinedCond
namespace Go.Proofs.Ytgpjhcpiemdbcaa.pageLays
open Go.ChangeShapes Go.WideShapes Go.ChangeAt Go.RowKit
open Go.ChangeMaps (open_string shut_string)
set_option linter.unusedVariables false

theorem own : ownKnob Try.prog.godebug = none := by kernel_rfl
theorem laidOut : laidOutB Try.prog = true := by kernel_rfl
theorem bytes_u8 : Try.prog.bytesOf 5 = 1 := by kernel_rfl

theorem lays_head (no kind : Nat) (body : List UInt8) (h : body.length ≤ 244) (hk : kind < 256) :
    (bv (pgBytes no kind body))[0]? = some (.int .u8 (kind : Int)) ∧ (bv (pgBytes no kind body))[1]? = some (.int .u8 0) ∧ (bv (pgBytes no kind body))[2]? = some (.int .u8 (body.length : Int)) ∧ (bv (pgBytes no kind body))[3]? = some (.int .u8 0) := by
  rw [pgBytes_form no kind body h]
  generalize pgSum (laidL no kind body) = s
  have e : digs kind 1 ++ [0] ++ digs body.length 2 ++ digs no 4 ++ digs s 4 ++ body ++ List.replicate (244 - body.length) 0 = [UInt8.ofNat kind, 0, UInt8.ofNat body.length, UInt8.ofNat (body.length / 256)] ++ (digs no 4 ++ digs s 4 ++ body ++ List.replicate (244 - body.length) 0) := by simp [digs]
  rw [e]
  have h1 : (UInt8.ofNat kind).toNat = kind := by rw [toNat_ofNat]; omega
  have h2 : (UInt8.ofNat body.length).toNat = body.length := by rw [toNat_ofNat]; omega
  have h3 : (UInt8.ofNat (body.length / 256)).toNat = 0 := by rw [toNat_ofNat]; omega
  refine ⟨?_, ?_, ?_, ?_⟩ <;> simp [bv, h1, h2, h3]
theorem lays_tail (no kind : Nat) (body : List UInt8) (h : body.length ≤ 244) (k : Nat) (hk : 12 + body.length ≤ k) (hk2 : k < 256) : (bv (pgBytes no kind body))[k]? = some (.int .u8 0) := by
  rw [pgBytes_form no kind body h]
  generalize pgSum (laidL no kind body) = s
  have hl : (digs kind 1 ++ [0] ++ digs body.length 2 ++ digs no 4 ++ digs s 4 ++ body).length = 12 + body.length := by simp [digs_length]; omega
  simp only [bv, List.getElem?_map]
  rw [List.getElem?_append_right (by omega), hl, List.getElem?_replicate, if_pos (by omega)]
  rfl
theorem lays_body (no kind : Nat) (body : List UInt8) (h : body.length ≤ 244) : seg (pgBytes no kind body) 12 body.length = body := by
  have h1 := pgBytes_body no kind body h
  unfold pgBody at h1
  rw [pgBytes_len no kind body h] at h1
  exact h1
/-- The four first cells of a page. -/
def Four (w : World) (g : Nat) (k n : Int) : Prop := w.cell? ⟨g, 0, none⟩ = some (.int .u8 k) ∧ w.cell? ⟨g, 1, none⟩ = some (.int .u8 0) ∧ w.cell? ⟨g, 2, none⟩ = some (.int .u8 n) ∧ w.cell? ⟨g, 3, none⟩ = some (.int .u8 0)
set_option maxRecDepth 100000 in
set_option maxHeartbeats 1600000 in
theorem walk (no kind : Int) (A : Option Addr) (l : List UInt8) (c : Nat) (w : World) (_hn : (Lit.int .i64 no).wf = true) (_hk : (Lit.int .i64 kind).wf = true) (_hlc : l.length ≤ c) (_hcm : c ≤ maxLen) (hr : Reads w w.heap.size 1 A l.length (bv l)) (hre : l.length ≤ 140737488351232) :
    Calls Try.prog 7 #[.int .i64 no, .int .i64 kind, .slice A l.length c] w fun e w' => e = .returned (.bool true) ∧ Below w.heap.size w w' := by
  have HR := Lib.hid hr
  clear _hn _hk _hlc _hcm hr
  by_cases hp : (mPack no kind l).2 = 0
  · have hpk := pack_yes hp w _ A c rfl (by omega) HR.out
    obtain ⟨hno, hkd, h244, hm⟩ := mPack_ok hp
    rw [hm] at hpk
    have HPk := Lib.hid hpk
    have HL := Lib.hid (pgBytes_length no.toNat kind.toNat l h244)
    have hh := lays_head no.toNat kind.toNat l h244 (by have := hkd.2; omega)
    rw [Int.toNat_of_nonneg (by have := hkd.1; omega)] at hh
    have HH := Lib.hid hh
    have HT := Lib.hid (lays_tail no.toNat kind.toNat l h244)
    have HBd := Lib.hid (lays_body no.toNat kind.toNat l h244)
    have hnum := pgBytes_no no.toNat kind.toNat l h244 (by have := hno.2; omega)
    generalize pgBytes no.toNat kind.toNat l = P at *
    have HI := Lib.hid (fun W g (hW : Reads W W.heap.size 1 (some ⟨g, 0, none⟩) P.length (bv P)) => refInt_seg (off := 0) (b := g) 4 4 252 (by rw [HL.out]; omega) (by omega) (by omega) hW)
    rw [hnum, Int.toNat_of_nonneg hno.1] at HI
    simp only [Nat.zero_add] at HI
    have h256 : (l.length : Int) ≤ 244 := by omega
    have hk1 : 1 ≤ kind := hkd.1
    have hk9 : kind ≤ 9 := hkd.2
    have ha1 : (12 : Int) ≤ 12 + (l.length : Int) := by omega
    have ha2 : (12 : Int) + (l.length : Int) ≤ 256 := by omega
    have hw12 : IntKind.i64.wrap (12 + (l.length : Int)) = 12 + (l.length : Int) := IntWalk.i64_in _ (by omega)
    have hw0 : IntKind.i64.wrap 0 = 0 := IntWalk.i64_in _ (by omega)
    have hwk : IntKind.i64.wrap kind = kind := IntWalk.i64_in _ (by omega)
    have hwl : IntKind.i64.wrap (l.length : Int) = (l.length : Int) := IntWalk.i64_in _ (by omega)
    have hn4 : l.length ≤ 244 := h244
    have HN4 := Lib.hid hn4
    clear hpk hno hkd h244 hm hp hh hnum hn4
    go_enter Try.func7, Try.ntmps7
    go_wp2_with (first
      | (go_at_call 9; refine HPk.out.mono ?_; rintro e w1 ⟨g, rfl, hg, hb1, hbl1⟩; have HBk1 := Lib.hid hb1; have HB01 := Lib.hid hbl1; clear hb1 hbl1)
      | (go_at_call 11; refine (awake_any w1).mono ?_; rintro e w2 ⟨rfl, hb2⟩; have HBk2 := Lib.hid (HBk1.out.below hb2 HBk1.out.lt); have HB02 := Lib.hid (HB01.out.trans (hb2.mono HB01.out.size)); clear hb2)
      | (go_at_call 19; refine (HI.out w2 g (blk_all HBk2.out)).mono ?_; rintro e w3 ⟨rfl, hb3⟩; have HBk3 := Lib.hid (HBk2.out.below hb3 HBk2.out.lt); have HB03 := Lib.hid (HB02.out.trans (hb3.mono HB02.out.size)); clear hb3)
      | fail)
    have hfour : ∀ W, Blk W g 46 (bv P).toArray → Four W g kind (l.length : Int) := fun W hW => by
      obtain ⟨a0, a1, a2, a3⟩ := HH.out
      exact ⟨by rw [hW.cell]; simpa using a0, by rw [hW.cell]; simpa using a1, by rw [hW.cell]; simpa using a2, by rw [hW.cell]; simpa using a3⟩
    have HFo := Lib.hid hfour
    obtain ⟨z0, z1, z2, z3⟩ := hfour _ HBk3.out
    clear hfour
    go_cut [87] from 37 to 87 (fun s87 wx => s87 = .bool false ∧ Hid (Blk wx g 46 (bv P).toArray ∧ Below w.heap.size w wx))
    case first =>
      have hsm := same_n (w := w3.drew) (l := seg P 12 l.length) (m := l) (A := some ⟨g, 12, none⟩) (A' := A) w3.heap.size w.heap.size 244 c l.length l.length (by rw [HBd.out]) rfl (by have := HN4.out; unfold maxLen; omega) (by have := HN4.out; unfold maxLen; omega) (blk_part HBk3.out 12 l.length (by have := HN4.out; rw [HL.out]; omega)) (HR.out.over HB03.out.drew)
      rw [decide_eq_true HBd.out] at hsm
      have HSm := Lib.hid hsm
      clear hsm
      go_still_tail 48, (by kernel_rfl)
      change wpList _ _ _ _ _ w3.drew
      have HB3d := Lib.hid HB03.out.drew
      have HBk3d : Hid (Blk w3.drew g 46 (bv P).toArray) := Lib.hid HBk3.out.drew
      go_wp2_with (first
          | (go_at_call 12; rw [Nat.add_sub_cancel_left]; refine HSm.out.mono ?_; rintro e w4 ⟨rfl, hb4⟩; have HBk4 := Lib.hid (HBk3d.out.below hb4 HBk3d.out.lt); have HB04 := Lib.hid (HB3d.out.trans (hb4.mono HB3d.out.size)); clear hb4)
          | fail)
      go_meet
      exact ⟨rfl, HBk4.out, HB04.out⟩
    case rest =>
      obtain ⟨rfl, HBc⟩ := hcut
      clear z0 z1 z2 z3
      go_wp2_with fail
      go_loop [11] (fun i => ∃ k : Nat, 12 + l.length ≤ k ∧ k ≤ 256 ∧ i = .int .i64 k) (fun i => 256 - (intOf i).toNat)
      case atStart => exact ⟨12 + l.length, Nat.le_refl _, by have := HN4.out; omega, by go_num⟩
      case round =>
        obtain ⟨k, hk, hk2, rfl⟩ := hrel
        by_cases hlt : k < 256
        · have hcell : wc.cell? ⟨g, k, none⟩ = some (.int .u8 0) := by rw [HBc.out.1.cell]; simpa using HT.out k hk hlt
          have hi : (k : Int) < 256 := by omega
          have hi0 : (0 : Int) ≤ (k : Int) := by omega
          go_wp2_with fail
          go_round
          case rel => exact ⟨k + 1, by omega, by omega, by go_num⟩
          case measure => simp [intOf]; omega
        · have hi : (256 : Int) ≤ (k : Int) := by omega
          go_wp2_with fail
          go_ret
          exact ⟨rfl, HBc.out.2⟩
  · have hpk := pack_not hp w _ A c rfl (by omega) HR.out
    have hne : (((mPack no kind l).2 : Int) != 0) = true := by rw [bne_iff_ne]; omega
    generalize (mPack no kind l).2 = e0 at *
    have HPk := Lib.hid hpk
    clear hpk hp
    go_enter Try.func7, Try.ntmps7
    go_wp2_with (first
      | (go_at_call 9; refine HPk.out.mono ?_; rintro e w1 ⟨rfl, hb1⟩; have HB1 := Lib.hid hb1; clear hb1)
      | (go_at_call 11; have m0 := HB2; refine (awake_any w2).mono ?_; rintro e w3 ⟨rfl, hb3⟩)
      | (go_at_call 11; refine (awake_any w1).mono ?_; rintro e w2 ⟨rfl, hb2⟩; have HB2 := Lib.hid (HB1.out.trans (hb2.mono HB1.out.size)); clear hb2)
      | fail)
    go_ret
    exact ⟨rfl, HB2.out.trans (hb3.mono HB2.out.size)⟩

set_option maxRecDepth 100000 in
theorem lifted (os : Os) (started : os.Started) (H : Type) (enc : TypeId × Value → H) :
    ReturnsInHanded {} Try.checked os 7 .any (Rows.pageLaysSpec.pre6 enc Try.prog Try.f7 Rows.pageLaysRow.domain false) (Rows.pageLaysSpec.post enc Try.prog Try.f7 false true false false) := by
  refine returnsInHanded_of_change_sized (C := Try.checked) own started (by kernel_rfl) Try.func7
    (ChangeSpec.witness6 (enc := enc) (C := Try.checked) false ⟨#[], #[.int .i64 0, .int .i64 0, .slice none 0 0], []⟩ 8 (by kernel_rfl) (by kernel_rfl) (by kernel_rfl) (by kernel_rfl)) ?_
  intro W base args ds gs before hval0 hW hcnd hsz0 _
  have hsz : (DataW.weightsEach Try.prog (Try.f7.params.toList ++ Rows.pageLaysSpec.plain.varTypes Try.prog) (ds ++ gs)).all (· ≤ reachBytes) = true := hsz0
  have hval : ∀ (j : Nat) t v, Try.f7.params[j]? = some t → args[j]? = some v → Value.okWide Try.prog W .any base t v := hval0
  have hW' := hW
  obtain ⟨p, q, hA0, hV, rfl, hfz, hnd⟩ := hW
  have hA : DataW.TrodAll enc Try.prog W 0 (fun _ => true) true Try.f7.params.toList args.toList ds p := hA0
  rw [Try.params7] at hA hval hsz
  obtain ⟨v0, vs0, d0, ds0, p0, q0, hargs, rfl, rfl, h0, r0⟩ := trodAll_cons hA
  obtain ⟨v1, vs1, d1, ds1, p1, q1, rfl, rfl, rfl, h1, r1⟩ := trodAll_cons r0
  obtain ⟨v2, vs2, d2, ds2, p2, q2, rfl, rfl, rfl, h2, r2⟩ := trodAll_cons r1
  obtain ⟨rfl, rfl, rfl⟩ := trodAll_nil r2
  obtain rfl : args = #[v0, v1, v2] := by cases args; simp_all
  obtain ⟨rfl, rfl⟩ := trodVars_none hV
  obtain ⟨a0, rfl, rfl, rfl, w0⟩ := open_int Try.underlying3 (hval 0 3 v0 rfl rfl) h0
  obtain ⟨a1, rfl, rfl, rfl, w1⟩ := open_int Try.underlying3 (hval 1 3 v1 rfl rfl) h1
  have k2 := h2
  have lt2 : ∀ x ∈ p2, x.block < W.heap.size := by obtain ⟨m, hm⟩ := k2; exact DataW.trod_lt m _ _ _ hm
  obtain ⟨A2, l2, c2, rfl, hlc2, hcm2, hr2, hln2⟩ := open_bytes Try.underlying22 Try.underlying5 (by kernel_rfl) (hval 2 22 v2 rfl rfl) h2
  have hre2 := reach_bytes hsz (j := 2) rfl rfl Try.underlying22 bytes_u8 hln2
  clear hA0 hval0 hsz0
  refine (walk a0 a1 A2 l2 c2 W w0 w1 hlc2 hcm2 hr2 hre2).mono fun e W' ⟨he, bel⟩ => ?_
  subst he
  exact ⟨_, rfl, _, _, _, [], _, [], hW', trodAll_mk1 (shut_bool Try.underlying4 _), (trodAll_cons_mk (shut_int Try.underlying3 w0) (trodAll_cons_mk (shut_int Try.underlying3 w1) (trodAll_cons_mk (Below.trod laidOut (by kernel_rfl) (of_decide_eq_true (by kernel_rfl)) k2 bel lt2) trodAll_mk0))), rfl, bel.frame _, fun h => by cases h⟩

theorem over : Rows.pageLaysRow.holds Try.pinned (OpenSpec.ofChange Rows.pageLaysSpec) :=
  OpenClaim.holds_of_wide 7 Try.f7 rfl rfl rfl rfl rfl rfl rfl ⟨rfl, rfl, rfl, rfl, rfl⟩ rfl rfl rfl rfl rfl (by kernel_rfl) Try.func7 (by kernel_rfl)
    (of_decide_eq_true (by kernel_rfl)) (by unfold Func.isWrapper; first | (rw [if_pos (by decide +kernel)]; kernel_rfl) | (rw [if_neg (by decide +kernel)]; exact ⟨rfl, rfl⟩))
    (fun os started H enc _ => lifted os started H enc)

/-- The statement. -/
theorem proved : Rows.PageLaysSaid := over
#print axioms proved
end Go.Proofs.Ytgpjhcpiemdbcaa.pageLays
