/- The statement LeWider: a number in more bytes has the same bytes, with bytes 0 behind. No conditions. -/
import Derived.Test.YtklpljkjknncgaaRows
import Derived.Test.YtklpljkjknncgaaOpen
import Derived.Test.YtklpljkjknncgaaLeA
import Derived.Test.YtklpljkjknncgaaLeC
import Derived.Test.YtklpljkjknncgaaLeH
import Derived.WalkKit
import Derived.ProofKit
import Derived.OpenShut
import Derived.ShutString
import Derived.ChangeOld
import Derived.Below
import Derived.SizedLaws
namespace Go.Proofs.Ytklpljkjknncgaa.leWider
open Go.ChangeShapes Go.WideShapes Go.ChangeAt Go.RowKit
open Go.ChangeMaps (open_string shut_string)
set_option linter.unusedVariables false

theorem own : ownKnob Try.prog.godebug = none := by kernel_rfl

set_option maxHeartbeats 400000 in
theorem walk_out (n width more : Int) (w : World) (h : more < 0 ∨ 8 < more ∨ width < 1 ∨ 8 < width) :
    Calls Try.prog 9 #[.int .i64 n, .int .i64 width, .int .i64 more] w fun e w' => e = .returned (.bool true) ∧ Below w.heap.size w w' := by
  by_cases h1 : more < 0
  · clear h
    go_enter Try.func9, Try.ntmps9
    go_wp2_with (go_at_call 13; refine (awake_any w).mono ?_; rintro e w1 ⟨rfl, hb1⟩)
    go_ret
    exact ⟨rfl, hb1⟩
  · by_cases h2 : 8 < more
    · clear h
      go_enter Try.func9, Try.ntmps9
      go_wp2_with (go_at_call 13; refine (awake_any w).mono ?_; rintro e w1 ⟨rfl, hb1⟩)
      go_ret
      exact ⟨rfl, hb1⟩
    · by_cases h3 : width < 1
      · clear h
        go_enter Try.func9, Try.ntmps9
        go_wp2_with (go_at_call 13; refine (awake_any w).mono ?_; rintro e w1 ⟨rfl, hb1⟩)
        go_ret
        exact ⟨rfl, hb1⟩
      · have h4 : 8 < width := by omega
        clear h
        go_enter Try.func9, Try.ntmps9
        go_wp2_with (go_at_call 13; refine (awake_any w).mono ?_; rintro e w1 ⟨rfl, hb1⟩)
        go_ret
        exact ⟨rfl, hb1⟩

/-- Where the number has no room in width bytes. -/
theorem walk_not (n : Int) (width more : Nat) (w : World) (hn : n ≤ 9223372036854775807) (hm : more ≤ 8) (hw1 : 1 ≤ width) (hw8 : width ≤ 8) (he : (mBytes n width).2 ≠ 0) :
    Calls Try.prog 9 #[.int .i64 n, .int .i64 width, .int .i64 more] w fun e w' => e = .returned (.bool true) ∧ Below w.heap.size w w' := by
  have HB := fun W => Lib.hid (leBytes_any n width W hn)
  generalize mBytes n width = r at *
  have hne : (r.2 != 0) = true := by rw [bne_iff_ne]; exact he
  clear he
  by_cases hM : width + more < 8
  all_goals
    go_enter Try.func9, Try.ntmps9
    go_wp2_with fail
    refine (HB w).out.mono ?_
    rintro e w1 ⟨v1, rfl, ho1, hb1⟩
    clear ho1
    have HB1 := Lib.hid hb1
    clear hb1
    go_wp2_with fail
    refine (leBytes_any n _ w1 hn).mono ?_
    rintro e w2 ⟨v2, rfl, ho2, hb2⟩
    clear ho2
    have HB2 := Lib.hid (HB1.out.trans (hb2.mono HB1.out.size))
    clear hb2
    go_wp2_with fail
    refine (awake_any w2).mono ?_
    rintro e w3 ⟨rfl, hb3⟩
    have HB3 := Lib.hid (HB2.out.trans (hb3.mono HB2.out.size))
    clear hb3
    go_wp2_with fail
    refine (awake_any w3).mono ?_
    rintro e w4 ⟨rfl, hb4⟩
    go_wp2
    go_ret
    exact ⟨rfl, HB3.out.trans (hb4.mono HB3.out.size)⟩

theorem mBytes_ok {n : Int} {width : Nat} (hw1 : 1 ≤ width) (hw8 : width ≤ 8) (he : (mBytes n width).2 = 0) : 0 ≤ n ∧ n.toNat < 256 ^ width ∧ (mBytes n width).1 = digs n.toNat width := by
  unfold mBytes at he ⊢
  split at he
  · simp at he
  · rename_i h1
    split at he
    · simp at he
    · rename_i h2
      rw [if_neg h1, if_neg h2]
      simp only [Int.toNat_natCast] at h2 ⊢
      exact ⟨by omega, by omega, trivial⟩

theorem mBytes_is {n : Int} {M : Int} {W : Nat} (hM : M = W) (hw1 : 1 ≤ W) (hw8 : W ≤ 8) (h0 : 0 ≤ n) (hlt : n.toNat < 256 ^ W) : mBytes n M = (digs n.toNat W, 0) := by
  subst hM
  unfold mBytes
  rw [if_neg (by omega), if_neg (by simp only [Int.toNat_natCast]; omega)]
  rfl

theorem digs_take (n W k : Nat) (h : k ≤ W) : (digs n W).take k = digs n k := by
  apply List.ext_getElem?
  intro j
  rw [List.getElem?_take]
  by_cases hj : j < k
  · rw [if_pos hj, digs_get n W j (by omega), digs_get n k j hj]
  · rw [if_neg hj, List.getElem?_eq_none (by rw [digs_length]; omega)]

/-- What the wider call leaves. -/
def Wide (l : List UInt8) (W : Nat) (w1 : World) (e : Ending) (w' : World) : Prop :=
  ∃ v, e = .returned (.tuple #[v, .int .i64 0]) ∧ w'.ownsRow w1.heap.size 5 1 v W (bv l) ∧ Below w1.heap.size w1 w'

/-- Where it has. -/
theorem walk_yes (n : Int) (width more : Nat) (w : World) (hn : n ≤ 9223372036854775807) (hm : more ≤ 8) (hw1 : 1 ≤ width) (hw8 : width ≤ 8) (he : (mBytes n width).2 = 0) :
    Calls Try.prog 9 #[.int .i64 n, .int .i64 width, .int .i64 more] w fun e w' => e = .returned (.bool true) ∧ Below w.heap.size w w' := by
  have HB := fun W => Lib.hid (leBytes_any n width W hn)
  obtain ⟨h0, hlt, hl⟩ := mBytes_ok hw1 hw8 he
  rw [show mBytes n width = (digs n.toNat width, 0) from by rw [← hl, ← he]] at HB
  clear he hl
  obtain ⟨W, hW, hwW, hW8⟩ : ∃ W : Nat, ((8 ≤ width + more ∧ W = 8) ∨ (width + more < 8 ∧ W = width + more)) ∧ width ≤ W ∧ W ≤ 8 := by
    by_cases h : 8 ≤ width + more
    · exact ⟨8, .inl ⟨h, rfl⟩, by omega, by omega⟩
    · exact ⟨width + more, .inr ⟨by omega, rfl⟩, by omega, by omega⟩
  have hltW : n.toNat < 256 ^ W := Nat.lt_of_lt_of_le hlt (Nat.pow_le_pow_right (by omega) hwW)
  have HT := Lib.hid (digs_take n.toNat W width hwW)
  have HZ : Hid (∀ k, width ≤ k → dig n.toNat k = 0) := fun k hk => by
    unfold dig
    rw [Nat.div_eq_of_lt (Nat.lt_of_lt_of_le hlt (Nat.pow_le_pow_right (by omega) hk))]
  have key : (8 ≤ width + more ∧ ((W : Int) != 8) = false ∧ ∀ w1, Hid (Calls Try.prog 11 #[.int .i64 n, .int .i64 8] w1 (Wide (digs n.toNat W) W w1))) ∨
      (width + more < 8 ∧ ((W : Int) != (width : Int) + (more : Int)) = false ∧ ∀ w1, Hid (Calls Try.prog 11 #[.int .i64 n, .int .i64 ((width : Int) + (more : Int))] w1 (Wide (digs n.toNat W) W w1))) := by
    rcases hW with ⟨hge, hWe⟩ | ⟨hlt8, hWe⟩
    · refine .inl ⟨hge, by rw [bne_eq_false_iff_eq]; omega, fun w1 => ?_⟩
      have h2 := leBytes_any n 8 w1 hn
      rw [mBytes_is (W := W) (by omega) (by omega) (by omega) h0 hltW, digs_length] at h2
      exact h2
    · refine .inr ⟨hlt8, by rw [bne_eq_false_iff_eq]; omega, fun w1 => ?_⟩
      have h2 := leBytes_any n ((width : Int) + (more : Int)) w1 hn
      rw [mBytes_is (W := W) (by omega) (by omega) (by omega) h0 hltW, digs_length] at h2
      exact h2
  clear hltW hlt h0 hW
  rcases key with ⟨hge, hq, HB2⟩ | ⟨hge, hq, HB2⟩
  all_goals
    go_enter Try.func9, Try.ntmps9
    go_wp2_with fail
    refine (HB w).out.mono ?_
    rintro e w1 ⟨v1, rfl, ho1, hb1⟩
    rw [digs_length] at ho1
    obtain ⟨A1, c1, rfl, _, _, hr1, _⟩ := own_form ho1
    have HB1 := Lib.hid hb1
    have HR1 := Lib.hid hr1
    clear ho1 hb1 hr1
    go_wp2_with fail
    refine (HB2 w1).out.mono ?_
    rintro e w2 ⟨v2, rfl, ho2, hb2⟩
    obtain ⟨A2, c2, rfl, hc2, hm2, hr2, _⟩ := own_form ho2
    unfold maxLen at hm2
    have HR1' := Lib.hid (HR1.out.below hb2)
    have HB02 := Lib.hid (HB1.out.trans (hb2.mono HB1.out.size))
    have HR2 := Lib.hid hr2
    clear ho2 hb2 hr2
    go_wp2_with fail
    refine (awake_any w2).mono ?_
    rintro e w3 ⟨rfl, hb3⟩
    have HB03 := Lib.hid (HB02.out.trans (hb3.mono HB02.out.size))
    have HR1'' := Lib.hid (HR1'.out.over hb3)
    have HR2' := Lib.hid (HR2.out.over hb3)
    have hcut := HR2'.out.take hwW
    rw [show (bv (digs n.toNat W)).take width = bv ((digs n.toNat W).take width) from by simp [bv, List.map_take], HT.out] at hcut
    have HC := Lib.hid hcut
    have hS := same_any (digs n.toNat width) (digs n.toNat width) A2 A1 _ _ c2 c1 w3 (by rw [digs_length]; unfold maxLen; omega) (by rw [digs_length]; unfold maxLen; omega) (by rw [digs_length]; exact HC.out) (by rw [digs_length]; exact HR1''.out)
    rw [digs_length, show decide (digs n.toNat width = digs n.toNat width) = true from by simp] at hS
    have HS := Lib.hid hS
    clear hb3 hcut hS
    go_wp2_with fail
    refine HS.out.mono ?_
    rintro e w4 ⟨rfl, hb4⟩
    have HB04 := Lib.hid (HB03.out.trans (hb4.mono HB03.out.size))
    have HR24 := Lib.hid (HR2'.out.over hb4)
    clear hb4
    go_wp2
    go_loop [11] (fun i => ∃ k : Nat, width ≤ k ∧ k ≤ W ∧ i = .int .i64 k) (fun i => W - (intOf i).toNat)
    case atStart => exact ⟨width, Nat.le_refl _, hwW, rfl⟩
    case round =>
      obtain ⟨k, hk1, hk, rfl⟩ := hrel
      by_cases hlt : k < W
      · obtain ⟨b, off, rfl, _, hc⟩ := HR24.out.form (by omega)
        have hx := hc k _ (bv_digs_get n.toNat W k hlt)
        rw [HZ.out k hk1] at hx
        clear hc
        go_wp2
        go_round
        case rel => exact ⟨k + 1, by omega, by omega, by go_num⟩
        case measure => simp [intOf]; omega
      · go_wp2
        go_ret
        exact ⟨rfl, HB04.out⟩

theorem walk (n width more : Int) (w : World) (hn : (Lit.int .i64 n).wf = true) (_hw : (Lit.int .i64 width).wf = true) (_hm : (Lit.int .i64 more).wf = true) :
    Calls Try.prog 9 #[.int .i64 n, .int .i64 width, .int .i64 more] w fun e w' => e = .returned (.bool true) ∧ Below w.heap.size w w' := by
  by_cases h : more < 0 ∨ 8 < more ∨ width < 1 ∨ 8 < width
  · exact walk_out n width more w h
  · obtain ⟨k, rfl⟩ := Int.eq_ofNat_of_zero_le (show 0 ≤ width by omega)
    obtain ⟨m, rfl⟩ := Int.eq_ofNat_of_zero_le (show 0 ≤ more by omega)
    by_cases he : (mBytes n k).2 = 0
    · exact walk_yes n k m w (bounds_i64 hn).2 (by omega) (by omega) (by omega) he
    · exact walk_not n k m w (bounds_i64 hn).2 (by omega) (by omega) (by omega) he

set_option maxRecDepth 100000 in
theorem lifted (os : Os) (started : os.Started) (H : Type) (enc : TypeId × Value → H) :
    ReturnsInHanded {} Try.checked os 9 .any (Rows.leWiderSpec.pre6 enc Try.prog Try.f9 Rows.leWiderRow.domain false) (Rows.leWiderSpec.post enc Try.prog Try.f9 false true false false) := by
  refine returnsInHanded_of_change_sized (C := Try.checked) own started (by kernel_rfl) Try.func9
    (ChangeSpec.witness6 (enc := enc) (C := Try.checked) false ⟨#[], #[.int .i64 0, .int .i64 0, .int .i64 0], []⟩ 8 (by kernel_rfl) (by kernel_rfl) (by kernel_rfl) (by kernel_rfl)) ?_
  intro W base args ds gs before hval0 hW hcnd hsz0 _
  have hsz : (DataW.weightsEach Try.prog (Try.f9.params.toList ++ Rows.leWiderSpec.plain.varTypes Try.prog) (ds ++ gs)).all (· ≤ reachBytes) = true := hsz0
  have hval : ∀ (j : Nat) t v, Try.f9.params[j]? = some t → args[j]? = some v → Value.okWide Try.prog W .any base t v := hval0
  have hW' := hW
  obtain ⟨p, q, hA0, hV, rfl, hfz, hnd⟩ := hW
  have hA : DataW.TrodAll enc Try.prog W 0 (fun _ => true) true Try.f9.params.toList args.toList ds p := hA0
  rw [Try.params9] at hA hval hsz
  obtain ⟨v0, vs0, d0, ds0, p0, q0, hargs, rfl, rfl, h0, r0⟩ := trodAll_cons hA
  obtain ⟨v1, vs1, d1, ds1, p1, q1, rfl, rfl, rfl, h1, r1⟩ := trodAll_cons r0
  obtain ⟨v2, vs2, d2, ds2, p2, q2, rfl, rfl, rfl, h2, r2⟩ := trodAll_cons r1
  obtain ⟨rfl, rfl, rfl⟩ := trodAll_nil r2
  obtain rfl : args = #[v0, v1, v2] := by cases args; simp_all
  obtain ⟨rfl, rfl⟩ := trodVars_none hV
  obtain ⟨a0, rfl, rfl, rfl, w0⟩ := open_int Try.underlying3 (hval 0 3 v0 rfl rfl) h0
  obtain ⟨a1, rfl, rfl, rfl, w1⟩ := open_int Try.underlying3 (hval 1 3 v1 rfl rfl) h1
  obtain ⟨a2, rfl, rfl, rfl, w2⟩ := open_int Try.underlying3 (hval 2 3 v2 rfl rfl) h2
  clear hA0 hval0 hsz0
  refine (walk a0 a1 a2 W w0 w1 w2).mono fun e W' ⟨he, bel⟩ => ?_
  subst he
  exact ⟨_, rfl, _, _, _, [], _, [], hW', trodAll_mk1 (shut_bool Try.underlying4 _), (trodAll_cons_mk (shut_int Try.underlying3 w0) (trodAll_cons_mk (shut_int Try.underlying3 w1) (trodAll_cons_mk (shut_int Try.underlying3 w2) trodAll_mk0))), rfl, bel.frame _, fun h => by cases h⟩

theorem over : Rows.leWiderRow.holds Try.pinned (OpenSpec.ofChange Rows.leWiderSpec) :=
  OpenClaim.holds_of_wide 9 Try.f9 rfl rfl rfl rfl rfl rfl rfl ⟨rfl, rfl, rfl, rfl, rfl⟩ rfl rfl rfl rfl rfl (by kernel_rfl) Try.func9 (by kernel_rfl)
    (of_decide_eq_true (by kernel_rfl)) (by unfold Func.isWrapper; first | (rw [if_pos (by decide +kernel)]; kernel_rfl) | (rw [if_neg (by decide +kernel)]; exact ⟨rfl, rfl⟩))
    (fun os started H enc _ => lifted os started H enc)

/-- The statement. -/
theorem proved : Rows.LeWiderSaid := over
#print axioms proved
end Go.Proofs.Ytklpljkjknncgaa.leWider
