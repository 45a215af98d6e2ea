/- The statement LeRuns: a reader answers what the document says, call by call; it moves by what it reads alone; the bytes that it was made of may be written over. No conditions. -/
import Derived.Test.YtklpljkjknncgaaRows
import Derived.Test.YtklpljkjknncgaaOpen
import Derived.Test.YtklpljkjknncgaaLeU
import Derived.Test.YtklpljkjknncgaaLeE
import Derived.Test.YtklpljkjknncgaaLeH
import Derived.Test.YtklpljkjknncgaaOpenS
import Derived.WalkKit
import Derived.ProofKit
import Derived.OpenShut
import Derived.ShutString
import Derived.ChangeOld
import Derived.Below
import Derived.SizedLaws
namespace Go.Proofs.Ytklpljkjknncgaa.leRuns
open Go.ChangeShapes Go.WideShapes Go.ChangeAt Go.RowKit
open Go.ChangeMaps (open_string shut_string)
set_option linter.unusedVariables false

theorem own : ownKnob Try.prog.godebug = none := by kernel_rfl
theorem laidOut : laidOutB Try.prog = true := by kernel_rfl
theorem bytes_u8 : Try.prog.bytesOf 5 = 1 := by kernel_rfl

set_option maxRecDepth 100000 in
set_option maxHeartbeats 1600000 in
theorem walk (A : Option Addr) (l : List UInt8) (c : Nat) (A' : Option Addr) (m c' : Nat) (xs : List Value) (w : World) (hlc : l.length ≤ c) (hcm : c ≤ maxLen) (hr : Reads w w.heap.size 1 A l.length (bv l)) (hre : l.length ≤ 140737488351232)
    (hmc : m ≤ c') (hcm' : c' ≤ maxLen) (hr' : Reads w w.heap.size 2 A' m xs) (hxs : ∀ i, i < m → ∃ a b : Int, xs[i * 2]? = some (.int .u8 a) ∧ xs[i * 2 + 1]? = some (.int .i64 b) ∧ (Lit.int .u8 a).wf = true ∧ (Lit.int .i64 b).wf = true) :
    Calls Try.prog 7 #[.slice A l.length c, .slice A' m c'] w fun e w' => e = .returned (.bool true) ∧ Below w.heap.size w w' := by
  unfold maxLen at hcm'
  have HXS := Lib.hid hxs
  clear hxs
  go_enter Try.func7, Try.ntmps7
  go_wp2_with fail
  refine (copy_any l A _ c w (by omega) hr).mono ?_
  rintro e w1 ⟨v1, rfl, ho1, hb1⟩
  obtain ⟨gs, A1, c1, rfl, hgs, hA1, hU⟩ := own_at ho1
  obtain ⟨A1', c1', hv, _, _, hr1, hlo⟩ := own_form ho1
  injection hv with hv _ hv'
  subst hv
  subst hv'
  go_wp2_with fail
  refine (on_any l A1 _ c1 w1 (by omega) hr1).mono ?_
  rintro e w2 ⟨g, rfl, hg, hd, hb2⟩
  go_wp2_with fail
  refine (awake_any w2).mono ?_
  rintro e w3 ⟨rfl, hb3⟩
  go_wp2_with fail
  have hd3 := hd.below (hb3)
  have hz1 := hb1.size
  have hz2 := hb2.size
  have hz3 := hb3.size
  have hBel := hb1.trans ((hb2.trans (hb3.mono hz2)).mono hz1)
  have hU3 : 0 < l.length → U8Row w3 gs l.length := fun h0 => by
    obtain ⟨cs, hb, hc⟩ := hU h0
    have hb' := hb.below hb2 hb.lt
    exact ⟨cs, hb'.below hb3 hb'.lt, hc⟩
  have hgL : 0 < l.length → gs < w1.heap.size := fun h0 => (hlo _ (hA1 h0)).2
  have HA1 := Lib.hid hA1
  have HGL := Lib.hid hgL
  have HU3 := Lib.hid hU3
  have HB3 := Lib.hid hBel
  have HD3 := Lib.hid hd3
  have HR := Lib.hid hr
  have HR' := Lib.hid hr'
  clear hA1 hgL hU hU3 hBel hd hd3 ho1 hr1 hlo hb1 hb2 hb3 hr hr'
  go_loopw [7] (fun i wr => ∃ k : Nat, k ≤ l.length ∧ i = .int .i64 k ∧ Hid (0 < l.length → U8Row wr gs l.length) ∧ Hid (RdAt wr w1.heap.size w2.heap.size g l 0) ∧ Hid (Below w.heap.size w wr) ∧ w2.heap.size ≤ wr.heap.size) (fun i _ => l.length - (intOf i).toNat)
  case atStart => exact ⟨0, Nat.zero_le _, rfl, HU3, HD3, HB3, hz3⟩
  case round =>
    obtain ⟨k, hk, rfl, hU, hd, hbl, hz⟩ := hrel
    by_cases hlt : k < l.length
    · have hA := HA1.out (by omega)
      subst hA
      obtain ⟨cs, hbk, hcs⟩ := hU.out (by omega)
      obtain ⟨x, hx⟩ := hcs k hlt
      have hc := (hbk.cell k).trans hx
      have hf := hbk.frozen k
      have hi : (k : Int) < (l.length : Int) := by omega
      have HU3 := fun y => Lib.hid ((hU.out (by omega)).set k y)
      have hgl := HGL.out (by omega)
      have HD := fun y => Lib.hid (hd.out.grown (only_setCell (p := ⟨gs, k, none⟩) (World.grownBy.refl wr (some gs)) (.inl rfl) y) hgl hz)
      have HBL := fun y => Lib.hid (hbl.out.setCell (p := ⟨gs, k, none⟩) hgs y)
      clear hbk hcs hx hU hd hbl hgl
      go_wp2
      go_roundw
      case rel => exact ⟨k + 1, by omega, by go_num, fun _ => (HU3 _).out, HD _, HBL _, by simpa [World.setCell] using hz⟩
      case measure => simp [intOf]; omega
    · clear hU
      obtain ⟨wo, rfl⟩ : ∃ wo : World, wo = wr := ⟨_, rfl⟩
      go_wp2
      go_loopw [8, 9, 10, 11] (fun at_ i _ _ wr => ∃ k q : Nat, k ≤ 200 ∧ k ≤ m ∧ i = .int .i64 k ∧ at_ = .int .i64 q ∧ Hid (RdAt wr w1.heap.size w2.heap.size g l q) ∧ Hid (Below w.heap.size w wr) ∧ w2.heap.size ≤ wr.heap.size) (fun _ i _ _ _ => 200 - (intOf i).toNat)
      case atStart => exact ⟨0, 0, by omega, Nat.zero_le _, rfl, rfl, hd, hbl, hz⟩
      case round =>
        obtain ⟨k, q, hk200, hkm, rfl, rfl, hd, hbl, hz⟩ := hrel
        by_cases hlt : k < m ∧ k < 200
        · obtain ⟨hlt, hlt2⟩ := hlt
          obtain ⟨a, b, hx0, hx1, _, _⟩ := HXS.out k hlt
          obtain ⟨b', off', rfl, _, hcells⟩ := (HR'.out.below hbl.out).formN (by omega) (by omega)
          have hc0 : wr.cell? ⟨b', off' + k * 2, none⟩ = some (.int .u8 a) := hcells _ _ hx0
          have hc1 : wr.cell? ⟨b', off' + k * 2 + 1, none⟩ = some (.int .i64 b) := hcells _ _ hx1
          have hone := one_any a b A c wr _ _ _ g l q hd.out hre hlc hcm (HR.out.below hbl.out) hz1 (by omega) hz
          have HONE := Lib.hid hone
          have hi : (k : Int) < (m : Int) := by omega
          have hq := hd.out.1
          clear hcells hx0 hx1 hone hd
          go_wp2_with fail
          refine HONE.out.mono ?_
          rintro e w4 ⟨q', rfl, hto⟩
          have hz4 := hto.1.size
          have hlg := hto.2.2.1.1
          have HB4 := Lib.hid (hbl.out.grown hto.1 hbl.out.size (fun r hr => by injection hr with hr; omega))
          have HD4 := Lib.hid hto.2
          have hq' := hto.2.1
          clear HONE hto hbl hc0 hc1
          go_wp2_with fail
          refine (place_any w4 _ _ g l _ HD4.out).mono ?_
          rintro e w5 ⟨rfl, hb5⟩
          have HD5 := Lib.hid (HD4.out.over hb5)
          have HB5 := Lib.hid (HB4.out.trans (hb5.mono HB4.out.size))
          have hz5 := hb5.size
          have hlf := left_any w5 _ _ g l _ HD5.out
          rw [show ((l.length - q' : Nat) : Int) = (l.length : Int) - (q' : Int) from by omega] at hlf
          have HLF := Lib.hid hlf
          clear hb5 hlf HD4 HB4
          go_wp2_with fail
          refine HLF.out.mono ?_
          rintro e w6 ⟨rfl, hb6⟩
          have HD6 := Lib.hid (HD5.out.over hb6)
          have HB6 := Lib.hid (HB5.out.trans (hb6.mono HB5.out.size))
          have hz6 := hb6.size
          clear hb6 HD5 HB5 HLF
          go_wp2
          go_roundw
          case rel => exact ⟨k + 1, q', by omega, by omega, by go_num, rfl, HD6, HB6, by omega⟩
          case measure => simp [intOf]; omega
        · have hbl' := hbl
          clear hbl hd
          by_cases hlt2 : k < m
          · have h200 : ¬ k < 200 := fun h => hlt ⟨hlt2, h⟩
            have h200i : ¬ (k : Int) < 200 := by omega
            clear hlt
            go_wp2
            go_ret
            exact ⟨rfl, hbl'.out⟩
          · clear hlt
            go_wp2
            go_ret
            exact ⟨rfl, hbl'.out⟩

set_option maxRecDepth 100000 in
theorem lifted (os : Os) (started : os.Started) (H : Type) (enc : TypeId × Value → H) :
    ReturnsInHanded {} Try.checked os 7 .any (Rows.leRunsSpec.pre6 enc Try.prog Try.f7 Rows.leRunsRow.domain false) (Rows.leRunsSpec.post enc Try.prog Try.f7 false true false false) := by
  refine returnsInHanded_of_change_sized (C := Try.checked) own started (by kernel_rfl) Try.func7
    (ChangeSpec.witness6 (enc := enc) (C := Try.checked) false ⟨#[], #[.slice none 0 0, .slice none 0 0], []⟩ 8 (by kernel_rfl) (by kernel_rfl) (by kernel_rfl) (by kernel_rfl)) ?_
  intro W base args ds gs before hval0 hW hcnd hsz0 _
  have hsz : (DataW.weightsEach Try.prog (Try.f7.params.toList ++ Rows.leRunsSpec.plain.varTypes Try.prog) (ds ++ gs)).all (· ≤ reachBytes) = true := hsz0
  have hval : ∀ (j : Nat) t v, Try.f7.params[j]? = some t → args[j]? = some v → Value.okWide Try.prog W .any base t v := hval0
  have hW' := hW
  obtain ⟨p, q, hA0, hV, rfl, hfz, hnd⟩ := hW
  have hA : DataW.TrodAll enc Try.prog W 0 (fun _ => true) true Try.f7.params.toList args.toList ds p := hA0
  rw [Try.params7] at hA hval hsz
  obtain ⟨v0, vs0, d0, ds0, p0, q0, hargs, rfl, rfl, h0, r0⟩ := trodAll_cons hA
  obtain ⟨v1, vs1, d1, ds1, p1, q1, rfl, rfl, rfl, h1, r1⟩ := trodAll_cons r0
  obtain ⟨rfl, rfl, rfl⟩ := trodAll_nil r1
  obtain rfl : args = #[v0, v1] := by cases args; simp_all
  obtain ⟨rfl, rfl⟩ := trodVars_none hV
  have k0 := h0
  have lt0 : ∀ x ∈ p0, x.block < W.heap.size := by obtain ⟨m, hm⟩ := k0; exact DataW.trod_lt m _ _ _ hm
  obtain ⟨A0, l0, c0, rfl, hlc0, hcm0, hr0, hln0⟩ := open_bytes Try.underlying22 Try.underlying5 (by kernel_rfl) (hval 0 22 v0 rfl rfl) h0
  have hre0 := reach_bytes hsz (j := 0) rfl rfl Try.underlying22 bytes_u8 hln0
  have k1 := h1
  have lt1 : ∀ x ∈ p1, x.block < W.heap.size := by obtain ⟨m, hm⟩ := k1; exact DataW.trod_lt m _ _ _ hm
  obtain ⟨A1, m1, c1, xs1, rfl, hlc1, hcm1, hr1, hxs1⟩ := open_byte_int Try.underlying39 Try.underlying45 (by kernel_rfl) (by kernel_rfl) Try.underlying5 Try.underlying3 (hval 1 39 v1 rfl rfl) h1
  clear hA0 hval0 hsz0
  refine (walk A0 l0 c0 A1 m1 c1 xs1 W hlc0 hcm0 hr0 hre0 hlc1 hcm1 hr1 hxs1).mono fun e W' ⟨he, bel⟩ => ?_
  subst he
  exact ⟨_, rfl, _, _, _, [], _, [], hW', trodAll_mk1 (shut_bool Try.underlying4 _), (trodAll_cons_mk (Below.trod laidOut (by kernel_rfl) (of_decide_eq_true (by kernel_rfl)) k0 bel lt0) (trodAll_cons_mk (Below.trod laidOut (by kernel_rfl) (of_decide_eq_true (by kernel_rfl)) k1 bel lt1) trodAll_mk0)), rfl, bel.frame _, fun h => by cases h⟩

theorem over : Rows.leRunsRow.holds Try.pinned (OpenSpec.ofChange Rows.leRunsSpec) :=
  OpenClaim.holds_of_wide 7 Try.f7 rfl rfl rfl rfl rfl rfl rfl ⟨rfl, rfl, rfl, rfl, rfl⟩ rfl rfl rfl rfl rfl (by kernel_rfl) Try.func7 (by kernel_rfl)
    (of_decide_eq_true (by kernel_rfl)) (by unfold Func.isWrapper; first | (rw [if_pos (by decide +kernel)]; kernel_rfl) | (rw [if_neg (by decide +kernel)]; exact ⟨rfl, rfl⟩))
    (fun os started H enc _ => lifted os started H enc)

/-- The statement. -/
theorem proved : Rows.LeRunsSaid := over
#print axioms proved
end Go.Proofs.Ytklpljkjknncgaa.leRuns
