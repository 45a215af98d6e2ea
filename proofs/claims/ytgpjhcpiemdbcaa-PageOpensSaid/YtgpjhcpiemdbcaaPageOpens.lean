/- The statement PageOpens: any bytes are opened as the page that they are, or refused with the first thing that is wrong; they stay. No conditions. -/
import Derived.Test.YtgpjhcpiemdbcaaRows
import Derived.Test.YtgpjhcpiemdbcaaOpen
import Derived.Test.YtgpjhcpiemdbcaaPgT
import Derived.Test.YtgpjhcpiemdbcaaLent
import Derived.WalkKit
import Derived.ProofKit
import Derived.OpenShut
import Derived.ShutString
import Derived.ChangeOld
import Derived.Below
import Derived.SizedLaws
import Derived.JoinedCond
namespace Go.Proofs.Ytgpjhcpiemdbcaa.pageOpens
open Go.ChangeShapes Go.WideShapes Go.ChangeAt Go.RowKit
open Go.ChangeMaps (open_string shut_string)
set_option linter.unusedVariables false

theorem own : ownKnob Try.prog.godebug = none := by kernel_rfl
theorem laidOut : laidOutB Try.prog = true := by kernel_rfl
theorem bytes_u8 : Try.prog.bytesOf 5 = 1 := by kernel_rfl

theorem next_byte (x : UInt8) : ((x.toNat : Int) + 1) % 256 = (((x + 1).toNat : Nat) : Int) := by
  have h := UInt8.toNat_add x 1
  rw [h]
  simp
set_option maxRecDepth 100000 in
set_option maxHeartbeats 800000 in
theorem walk (no : Int) (A : Option Addr) (l : List UInt8) (c : Nat) (w : World) (hn : (Lit.int .i64 no).wf = true) (hlc : l.length ≤ c) (_hcm : c ≤ maxLen) (hr : Reads w w.heap.size 1 A l.length (bv l)) (hre : l.length ≤ 140737488351232) :
    Calls Try.prog 4 #[.int .i64 no, .slice A l.length c] w fun e w' => e = .returned (.bool true) ∧ Below w.heap.size w w' := by
  have hn2 := bounds_i64 hn
  have HR := Lib.hid hr
  have HPl := Lib.hid (mOpen_len no l)
  have HP := Lib.hid (fun W B A c hr => open_read no l W B A c (by omega) hr)
  have HQ := Lib.hid (fun W B A c hlc hr => refOpen_read no l W B A c hn2 hlc hr)
  have HLc := Lib.hid hlc
  generalize hp : mOpen no l = P at *
  obtain ⟨k, P, pe⟩ := P
  simp only at HP HQ HPl
  obtain ⟨n, hpn⟩ : ∃ n, n = P.length := ⟨_, rfl⟩
  have HPn := Lib.hid hpn.symm
  rw [← hpn] at HP HQ
  have hn244 : n ≤ 244 := by have := HPl.out; omega
  clear hp hr hn2 hn hlc hpn
  go_enter Try.func4, Try.ntmps4
  go_wp2_with (first
    | (go_at_call 8; refine (lent_any l A w.heap.size c w (by omega) HR.out).mono ?_; rintro e w1 ⟨v1, rfl, hv1, hb1⟩; obtain ⟨g1, cap1, hv, hr1⟩ := hv1.reads; subst hv; have HV1 := Lib.hid hv1; have HR1 := Lib.hid hr1; have HB1 := Lib.hid hb1; clear hv1 hr1 hb1)
    | (go_at_call 14; refine (HP.out w1 _ _ cap1 HR1.out).mono ?_; rintro e w2 ⟨A2, c2, rfl, ho2, hb2⟩; have HO2 := Lib.hid ho2; have HB2 := Lib.hid hb2; have HB02 := Lib.hid (HB1.out.trans (hb2.mono HB1.out.size)); clear ho2 hb2)
    | (go_at_call 15; refine (HQ.out w2 _ A c HLc.out (HR.out.over HB02.out)).mono ?_; rintro e w3 ⟨A3, c3, rfl, ho3, hb3⟩; have HO3 := Lib.hid ho3; have HB3 := Lib.hid hb3; have HB03 := Lib.hid (HB02.out.trans (hb3.mono HB02.out.size)); clear ho3 hb3)
    | (go_at_call 12; refine (same_n (l := P) (m := P) _ _ c2 c3 n n HPn.out HPn.out (by unfold maxLen; omega) (by unfold maxLen; omega) (HO2.out.below HB3.out).reads HO3.out.reads).mono ?_; rintro e w4 ⟨he4, hb4⟩; rw [decide_eq_true rfl] at he4; subst he4; have HB4 := Lib.hid hb4; have HB04 := Lib.hid (HB03.out.trans (hb4.mono HB03.out.size)); clear hb4)
    | fail)
  have HB24 := Lib.hid (HB3.out.trans (HB4.out.mono HB3.out.size))
  have HS12 := Lib.hid HB2.out.size
  go_loopw [13] (fun i wr => ∃ (k' : Nat) (P' : List UInt8), k' ≤ n ∧ i = .int .i64 k' ∧ P'.length = n ∧ Hid (Own wr w1.heap.size (.slice A2 n c2) P') ∧ Hid (Below w1.heap.size w1 wr)) (fun i _ => n - (intOf i).toNat)
  case atStart => exact ⟨0, P, Nat.zero_le _, rfl, HPn.out, HO2.out.below HB24.out, HB2.out.trans (HB24.out.mono HS12.out)⟩
  case round =>
    obtain ⟨k', P', hk, rfl, hP', HO, HB⟩ := hrel
    by_cases hlt : k' < n
    · obtain ⟨g, cur, rfl, hbg, -, -, hnc, -, -, -⟩ := HO.out.row (by omega)
      obtain ⟨hcell, hfro, hglt⟩ := HO.out.at_ hlt hP'
      have hi : (k' : Int) < (n : Int) := by omega
      have hi0 : (0 : Int) ≤ (k' : Int) := by omega
      have hset := HO.out.set hlt hP' (P'[k'] + 1)
      rw [← next_byte] at hset
      have HSet := Lib.hid hset
      have HB' : Hid (Below w1.heap.size w1 (wr.setCell ⟨g, k', none⟩ (.int .u8 (((P'[k'].toNat : Int) + 1) % 256)))) := Lib.hid (HB.out.setCell hbg _)
      have HL' : Hid ((P'.set k' (P'[k'] + 1)).length = n) := Lib.hid (by rw [List.length_set]; exact hP')
      generalize P'.set k' (P'[k'] + 1) = P2 at *
      generalize (P'[k'].toNat : Int) = x at *
      clear hset hP' HO HB
      go_wp2_with fail
      go_roundw
      case rel => exact ⟨k' + 1, P2, by omega, by go_num, HL'.out, HSet.out, HB'.out⟩
      case measure => simp [intOf]; omega
    · have hi : (n : Int) ≤ (k' : Int) := by omega
      have HB0r := Lib.hid (HB1.out.trans (HB.out.mono HB1.out.size))
      go_wp2_with (first
        | (go_at_call 11; refine (awake_any wr).mono ?_; rintro e w5 ⟨rfl, hb5⟩; have HB5 := Lib.hid hb5; have HB05 := Lib.hid (HB0r.out.trans (hb5.mono HB0r.out.size)); clear hb5)
        | (go_at_call 13; refine (kept_any l _ A _ c w.heap.size w5 (by omega) (HV1.out.below (HB.out.trans (HB5.out.mono HB.out.size))) (HR.out.over HB05.out)).mono ?_; rintro e w6 ⟨rfl, hb6⟩)
        | fail)
      go_ret
      exact ⟨rfl, HB05.out.trans (hb6.mono HB05.out.size)⟩

set_option maxRecDepth 100000 in
theorem lifted (os : Os) (started : os.Started) (H : Type) (enc : TypeId × Value → H) :
    ReturnsInHanded {} Try.checked os 4 .any (Rows.pageOpensSpec.pre6 enc Try.prog Try.f4 Rows.pageOpensRow.domain false) (Rows.pageOpensSpec.post enc Try.prog Try.f4 false true false false) := by
  refine returnsInHanded_of_change_sized (C := Try.checked) own started (by kernel_rfl) Try.func4
    (ChangeSpec.witness6 (enc := enc) (C := Try.checked) false ⟨#[], #[.int .i64 0, .slice none 0 0], []⟩ 8 (by kernel_rfl) (by kernel_rfl) (by kernel_rfl) (by kernel_rfl)) ?_
  intro W base args ds gs before hval0 hW hcnd hsz0 _
  have hsz : (DataW.weightsEach Try.prog (Try.f4.params.toList ++ Rows.pageOpensSpec.plain.varTypes Try.prog) (ds ++ gs)).all (· ≤ reachBytes) = true := hsz0
  have hval : ∀ (j : Nat) t v, Try.f4.params[j]? = some t → args[j]? = some v → Value.okWide Try.prog W .any base t v := hval0
  have hW' := hW
  obtain ⟨p, q, hA0, hV, rfl, hfz, hnd⟩ := hW
  have hA : DataW.TrodAll enc Try.prog W 0 (fun _ => true) true Try.f4.params.toList args.toList ds p := hA0
  rw [Try.params4] at hA hval hsz
  obtain ⟨v0, vs0, d0, ds0, p0, q0, hargs, rfl, rfl, h0, r0⟩ := trodAll_cons hA
  obtain ⟨v1, vs1, d1, ds1, p1, q1, rfl, rfl, rfl, h1, r1⟩ := trodAll_cons r0
  obtain ⟨rfl, rfl, rfl⟩ := trodAll_nil r1
  obtain rfl : args = #[v0, v1] := by cases args; simp_all
  obtain ⟨rfl, rfl⟩ := trodVars_none hV
  obtain ⟨a0, rfl, rfl, rfl, w0⟩ := open_int Try.underlying3 (hval 0 3 v0 rfl rfl) h0
  have k1 := h1
  have lt1 : ∀ x ∈ p1, x.block < W.heap.size := by obtain ⟨m, hm⟩ := k1; exact DataW.trod_lt m _ _ _ hm
  obtain ⟨A1, l1, c1, rfl, hlc1, hcm1, hr1, hln1⟩ := open_bytes Try.underlying22 Try.underlying5 (by kernel_rfl) (hval 1 22 v1 rfl rfl) h1
  have hre1 := reach_bytes hsz (j := 1) rfl rfl Try.underlying22 bytes_u8 hln1
  clear hA0 hval0 hsz0
  refine (walk a0 A1 l1 c1 W w0 hlc1 hcm1 hr1 hre1).mono fun e W' ⟨he, bel⟩ => ?_
  subst he
  exact ⟨_, rfl, _, _, _, [], _, [], hW', trodAll_mk1 (shut_bool Try.underlying4 _), (trodAll_cons_mk (shut_int Try.underlying3 w0) (trodAll_cons_mk (Below.trod laidOut (by kernel_rfl) (of_decide_eq_true (by kernel_rfl)) k1 bel lt1) trodAll_mk0)), rfl, bel.frame _, fun h => by cases h⟩

theorem over : Rows.pageOpensRow.holds Try.pinned (OpenSpec.ofChange Rows.pageOpensSpec) :=
  OpenClaim.holds_of_wide 4 Try.f4 rfl rfl rfl rfl rfl rfl rfl ⟨rfl, rfl, rfl, rfl, rfl⟩ rfl rfl rfl rfl rfl (by kernel_rfl) Try.func4 (by kernel_rfl)
    (of_decide_eq_true (by kernel_rfl)) (by unfold Func.isWrapper; first | (rw [if_pos (by decide +kernel)]; kernel_rfl) | (rw [if_neg (by decide +kernel)]; exact ⟨rfl, rfl⟩))
    (fun os started H enc _ => lifted os started H enc)

/-- The statement. -/
theorem proved : Rows.PageOpensSaid := over
#print axioms proved
end Go.Proofs.Ytgpjhcpiemdbcaa.pageOpens
