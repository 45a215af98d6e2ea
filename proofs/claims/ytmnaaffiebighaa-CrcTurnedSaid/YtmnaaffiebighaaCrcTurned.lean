/- The statement CrcTurned: with any one bit turned a text has another sum. No conditions. -/
import Derived.Test.YtmnaaffiebighaaRows
import Derived.Test.YtmnaaffiebighaaOpen
import Derived.Test.YtmnaaffiebighaaCrcC
import Derived.Test.YtmnaaffiebighaaCopy
import Derived.WalkKit
import Derived.ProofKit
import Derived.OpenShut
import Derived.ShutString
import Derived.ChangeOld
import Derived.Below
import Derived.SizedLaws
namespace Go.Proofs.Ytmnaaffiebighaa.crcTurned
open Go.ChangeShapes Go.WideShapes Go.ChangeAt Go.RowKit
open Go.ChangeMaps (open_string shut_string)
set_option linter.unusedVariables false

theorem own : ownKnob Try.prog.godebug = none := by kernel_rfl
theorem laidOut : laidOutB Try.prog = true := by kernel_rfl
theorem bytes_u8 : Try.prog.bytesOf 5 = 1 := by kernel_rfl

/-- A byte with one bit turned. -/
def turned (x : UInt8) (k : Nat) : UInt8 := UInt8.ofNat (x.toNat ^^^ 2 ^ k)
theorem pow_8 {k : Nat} (hk : k < 8) : 2 ^ k < 256 := Nat.lt_of_le_of_lt (Nat.pow_le_pow_right (n := 2) (by omega) (show k ≤ 7 by omega)) (by omega)
theorem turned_toNat (x : UInt8) (k : Nat) (hk : k < 8) : (turned x k).toNat = x.toNat ^^^ 2 ^ k := by
  rw [turned, toNat_ofNat, Nat.mod_eq_of_lt (Nat.xor_lt_two_pow (n := 8) x.toNat_lt (pow_8 hk))]
theorem turn_val (x : UInt8) (k : Nat) (hk : k < 8) : bits .xor .u8 (x.toNat : Int) (2 ^ k % 256) = ((turned x k).toNat : Int) := by
  have hp := pow_8 hk
  have e : (2 : Int) ^ k % 256 = ((2 ^ k : Nat) : Int) := by
    rw [Int.emod_eq_of_lt]
    · simp
    · exact Int.pow_nonneg (by omega)
    · have : ((2 ^ k : Nat) : Int) < 256 := by omega
      simpa using this
  rw [e, u8_xor_nat _ _ x.toNat_lt hp, turned_toNat x k hk]
theorem turn_ne (x : UInt8) (k : Nat) (hk : k < 8) : x ≠ turned x k := by
  intro h
  have h1 := congrArg UInt8.toNat h
  rw [turned_toNat x k hk] at h1
  have h2 := congrArg (x.toNat ^^^ ·) h1
  simp only [Nat.xor_self, ← Nat.xor_assoc, Nat.zero_xor] at h2
  have := Nat.pow_pos (n := k) (show 0 < 2 by omega)
  omega
theorem sumOf_set (l : List UInt8) (k : Nat) (d : UInt8) (h : k < l.length) (hd : l[k] ≠ d) : sumOf l ≠ sumOf (l.set k d) := by
  have e1 : l = l.take k ++ l[k] :: l.drop (k + 1) := by
    rw [← List.drop_eq_getElem_cons h, List.take_append_drop]
  have e2 : l.set k d = l.take k ++ d :: l.drop (k + 1) := List.set_eq_take_append_cons_drop.trans (if_pos h)
  rw [e2]
  conv => lhs; rw [e1]
  exact sumOf_ne _ _ _ _ hd
theorem reads_set {w : World} {g k : Nat} {t : TypeId} {cur : Array Value} {l : List UInt8} (hb : Blk w g t cur) (ht : cur.toList.take l.length = bv l) (hk : k < l.length) (d : UInt8) :
    Reads (w.setCell ⟨g, k, none⟩ (.int .u8 (d.toNat : Int))) (w.setCell ⟨g, k, none⟩ (.int .u8 (d.toNat : Int))).heap.size 1 (some ⟨g, 0, none⟩) l.length (bv (l.set k d)) := by
  have hb2 := hb.set_ k (.int .u8 (d.toNat : Int))
  refine ⟨by simp [bv], fun _ => ⟨_, rfl, hb2.lt, fun j u hu => ?_⟩⟩
  have ha : (⟨g, 0, none⟩ : Addr).add j = ⟨g, j, none⟩ := by
    unfold Addr.add
    by_cases hj : j = 0
    · subst hj; rfl
    · simp [hj]
  rw [ha, hb2.cell j]
  have hj : j < l.length := by
    have := (List.getElem?_eq_some_iff.1 hu).1
    simpa [bv] using this
  have hc : cur[j]? = some (.int .u8 (l[j].toNat : Int)) := by
    have : (cur.toList.take l.length)[j]? = (bv l)[j]? := by rw [ht]
    rw [List.getElem?_take, if_pos hj, bv_get l j hj] at this
    simpa using this
  have hjc := (Array.getElem?_eq_some_iff.1 hc).1
  rw [Array.getElem?_setIfInBounds]
  have hj' : j < (l.set k d).length := by rw [List.length_set]; exact hj
  rw [bv_get _ j hj'] at hu
  injection hu with hu
  subst hu
  by_cases hkj : k = j
  · subst hkj
    rw [if_pos rfl, if_pos hjc]
    simp
  · rw [if_neg hkj, hc]
    simp [List.getElem_set, hkj]

set_option maxHeartbeats 400000 in
theorem walk_far (A : Option Addr) (l : List UInt8) (c : Nat) (t : Int) (w : World) (hl : l.length ≤ 140737488351232) (ht : t ≤ 9223372036854775807) (h : t < 0 ∨ 0 ≤ t ∧ (l.length : Int) ≤ t / 8) :
    Calls Try.prog 7 #[.slice A l.length c, .int .i64 t] w fun e w' => e = .returned (.bool true) ∧ Below w.heap.size w w' := by
  rcases h with h1 | ⟨h1, h2⟩
  · go_enter Try.func7, Try.ntmps7
    go_wp2_with fail
    refine (awake_any _).mono ?_
    rintro e w1 ⟨rfl, hb1⟩
    go_wp2
    go_ret
    exact ⟨rfl, hb1⟩
  · go_enter Try.func7, Try.ntmps7
    go_wp2_with fail
    refine (awake_any _).mono ?_
    rintro e w1 ⟨rfl, hb1⟩
    go_wp2
    go_ret
    exact ⟨rfl, hb1⟩

set_option maxHeartbeats 400000 in
theorem walk_near (A : Option Addr) (l : List UInt8) (c : Nat) (t : Nat) (w : World) (hr : Reads w w.heap.size 1 A l.length (bv l)) (hl : l.length ≤ 140737488351232) (ht : (t : Int) ≤ 9223372036854775807) (h : t / 8 < l.length) :
    Calls Try.prog 7 #[.slice A l.length c, .int .i64 t] w fun e w' => e = .returned (.bool true) ∧ Below w.heap.size w w' := by
  have HR := Lib.hid hr
  clear hr
  have h1 : 0 ≤ (t : Int) := by omega
  have h2 : (t : Int) / 8 < (l.length : Int) := by omega
  have h3 : 0 ≤ (t : Int) / 8 := by omega
  go_enter Try.func7, Try.ntmps7
  go_wp2_with fail
  refine (copy_any l A _ c _ (by omega) HR.out).mono ?_
  rintro e w1 ⟨v1, rfl, hown, hb1⟩
  rcases hown.2 with ⟨_, h0⟩ | ⟨g, cap, cur, rfl, hbg, hheap, hnc, hcm, hcs, htk⟩
  · omega
  have hblk : Blk w1 g 5 cur := hheap
  have hcell : w1.cell? ⟨g, t / 8, none⟩ = some (.int .u8 (l[t / 8].toNat : Int)) := by
    rw [hblk.cell]
    have : (cur.toList.take (l.length * 1))[t / 8]? = (bv l)[t / 8]? := by rw [htk]
    rw [List.getElem?_take, if_pos (by omega), bv_get l _ h] at this
    simpa using this
  have hfr := hblk.frozen (t / 8)
  have HH := Lib.hid hheap
  have HT := Lib.hid htk
  have HS := Lib.hid hcs
  have HBl := Lib.hid hblk
  have HB1 := Lib.hid hb1
  have HO := Lib.hid hown
  clear hheap htk hcs hblk hb1 hown
  unfold maxLen at hcm
  go_wp2_with fail
  have HV := Lib.hid (turn_val l[t / 8] (t % 8) (Nat.mod_lt _ (by omega)))
  rw [HV.out]
  have hd := turn_ne l[t / 8] (t % 8) (Nat.mod_lt _ (by omega))
  have hsum := sumOf_set l (t / 8) (turned l[t / 8] (t % 8)) h hd
  have HN := Lib.hid hsum
  have hl1 := sumOf_lt l
  have hl2 := sumOf_lt (l.set (t / 8) (turned l[t / 8] (t % 8)))
  generalize turned l[t / 8] (t % 8) = d at *
  have hrs := reads_set HBl.out (by have := HT.out; rwa [Nat.mul_one] at this) h d
  have hb2 : Below w.heap.size w (w1.setCell ⟨g, t / 8, none⟩ (.int .u8 (d.toNat : Int))) := HB1.out.setCell (by simpa using hbg) _
  have HR2 := Lib.hid (HR.out.below hb2)
  have HB2 := Lib.hid hb2
  have HRS := Lib.hid hrs
  have HSZ := Lib.hid hb2.size
  clear hd hsum hrs hb2 HBl HH HT HS HB1 HO HV
  generalize w1.setCell ⟨g, t / 8, none⟩ (.int .u8 (d.toNat : Int)) = W2 at *
  refine (awake_any W2).mono ?_
  rintro e w3 ⟨rfl, hb3⟩
  have HR3 := Lib.hid ((HR2.out.below (hb3.mono HSZ.out)).here)
  have HRS3 := Lib.hid ((HRS.out.below hb3).here)
  have HB3 := Lib.hid (HB2.out.trans (hb3.mono HSZ.out))
  clear hb3
  go_wp2_with fail
  refine (of_one l A _ c _ _ w3 rfl (by omega) HR3.out).mono ?_
  rintro e w4 ⟨rfl, rfl⟩
  have hcall := of_one (l.set (t / 8) d) (some ⟨g, 0, none⟩) _ cap (w3.heap.size + 1) 23 (w3.alloc (.cells #[.slice A l.length c] 23)) (by simp) (by rw [List.length_set]; omega) (by rw [List.length_set]; exact HRS3.out.alloc (Nat.le_refl _) _)
  rw [List.length_set] at hcall
  have HC := Lib.hid hcall
  clear hcall
  go_wp2_with fail
  refine HC.out.mono ?_
  rintro e w4 ⟨rfl, rfl⟩
  clear HC
  have hne : ((sumOf l : Int) != (sumOf (l.set (t / 8) d) : Int)) = true := by
    rw [bne_iff_ne]
    have := HN.out
    omega
  generalize sumOf l = r1 at *
  generalize sumOf (l.set (t / 8) d) = r2 at *
  go_wp2
  go_ret
  exact ⟨rfl, (HB3.out.alloc HB3.out.size _).alloc (by have := HB3.out.size; simp; omega) _⟩

theorem walk (A : Option Addr) (l : List UInt8) (c : Nat) (t : Int) (w : World) (_hlc : l.length ≤ c) (_hcm : c ≤ maxLen) (hr : Reads w w.heap.size 1 A l.length (bv l)) (hre : l.length ≤ 140737488351232) (ht : (Lit.int .i64 t).wf = true) :
    Calls Try.prog 7 #[.slice A l.length c, .int .i64 t] w fun e w' => e = .returned (.bool true) ∧ Below w.heap.size w w' := by
  have ht1 := (bounds_i64 ht).2
  by_cases h : 0 ≤ t ∧ t / 8 < (l.length : Int)
  · obtain ⟨t, rfl⟩ := Int.eq_ofNat_of_zero_le h.1
    exact walk_near A l c t w hr hre ht1 (by omega)
  · exact walk_far A l c t w hre ht1 (by omega)

set_option maxRecDepth 100000 in
theorem lifted (os : Os) (started : os.Started) (H : Type) (enc : TypeId × Value → H) :
    ReturnsInHanded {} Try.checked os 7 .any (Rows.crcTurnedSpec.pre6 enc Try.prog Try.f7 Rows.crcTurnedRow.domain false) (Rows.crcTurnedSpec.post enc Try.prog Try.f7 false true false false) := by
  refine returnsInHanded_of_change_sized (C := Try.checked) own started (by kernel_rfl) Try.func7
    (ChangeSpec.witness6 (enc := enc) (C := Try.checked) false ⟨#[], #[.slice none 0 0, .int .i64 0], []⟩ 8 (by kernel_rfl) (by kernel_rfl) (by kernel_rfl) (by kernel_rfl)) ?_
  intro W base args ds gs before hval0 hW hcnd hsz0 _
  have hsz : (DataW.weightsEach Try.prog (Try.f7.params.toList ++ Rows.crcTurnedSpec.plain.varTypes Try.prog) (ds ++ gs)).all (· ≤ reachBytes) = true := hsz0
  have hval : ∀ (j : Nat) t v, Try.f7.params[j]? = some t → args[j]? = some v → Value.okWide Try.prog W .any base t v := hval0
  have hW' := hW
  obtain ⟨p, q, hA0, hV, rfl, hfz, hnd⟩ := hW
  have hA : DataW.TrodAll enc Try.prog W 0 (fun _ => true) true Try.f7.params.toList args.toList ds p := hA0
  rw [Try.params7] at hA hval hsz
  obtain ⟨v0, vs0, d0, ds0, p0, q0, hargs, rfl, rfl, h0, r0⟩ := trodAll_cons hA
  obtain ⟨v1, vs1, d1, ds1, p1, q1, rfl, rfl, rfl, h1, r1⟩ := trodAll_cons r0
  obtain ⟨rfl, rfl, rfl⟩ := trodAll_nil r1
  obtain rfl : args = #[v0, v1] := by cases args; simp_all
  obtain ⟨rfl, rfl⟩ := trodVars_none hV
  have k0 := h0
  have lt0 : ∀ x ∈ p0, x.block < W.heap.size := by obtain ⟨m, hm⟩ := k0; exact DataW.trod_lt m _ _ _ hm
  obtain ⟨A0, l0, c0, rfl, hlc0, hcm0, hr0, hln0⟩ := open_bytes Try.underlying23 Try.underlying5 (by kernel_rfl) (hval 0 23 v0 rfl rfl) h0
  have hre0 := reach_bytes hsz (j := 0) rfl rfl Try.underlying23 bytes_u8 hln0
  obtain ⟨a1, rfl, rfl, rfl, w1⟩ := open_int Try.underlying3 (hval 1 3 v1 rfl rfl) h1
  clear hA0 hval0 hsz0
  refine (walk A0 l0 c0 a1 W hlc0 hcm0 hr0 hre0 w1).mono fun e W' ⟨he, bel⟩ => ?_
  subst he
  exact ⟨_, rfl, _, _, _, [], _, [], hW', trodAll_mk1 (shut_bool Try.underlying4 _), (trodAll_cons_mk (Below.trod laidOut (by kernel_rfl) (of_decide_eq_true (by kernel_rfl)) k0 bel lt0) (trodAll_cons_mk (shut_int Try.underlying3 w1) trodAll_mk0)), rfl, bel.frame _, fun h => by cases h⟩

theorem over : Rows.crcTurnedRow.holds Try.pinned (OpenSpec.ofChange Rows.crcTurnedSpec) :=
  OpenClaim.holds_of_wide 7 Try.f7 rfl rfl rfl rfl rfl rfl rfl ⟨rfl, rfl, rfl, rfl, rfl⟩ rfl rfl rfl rfl rfl (by kernel_rfl) Try.func7 (by kernel_rfl)
    (of_decide_eq_true (by kernel_rfl)) (by unfold Func.isWrapper; first | (rw [if_pos (by decide +kernel)]; kernel_rfl) | (rw [if_neg (by decide +kernel)]; exact ⟨rfl, rfl⟩))
    (fun os started H enc _ => lifted os started H enc)

/-- The statement. -/
theorem proved : Rows.CrcTurnedSaid := over
#print axioms proved
end Go.Proofs.Ytmnaaffiebighaa.crcTurned
