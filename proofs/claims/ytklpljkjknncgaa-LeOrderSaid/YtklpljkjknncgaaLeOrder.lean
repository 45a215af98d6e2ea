/- The statement LeOrder: of two numbers in as many bytes the lesser one has the lesser bytes, looked at from the last one on. No conditions. -/
import Derived.Test.YtklpljkjknncgaaRows
import Derived.Test.YtklpljkjknncgaaOpen
import Derived.Test.YtklpljkjknncgaaLeA
import Derived.Test.YtklpljkjknncgaaLeC
import Derived.Test.YtklpljkjknncgaaLeH
import Derived.Test.YtklpljkjknncgaaLeM
import Derived.WalkKit
import Derived.BigQuiet
import Derived.Deep.QuietTactic
import Derived.ProofKit
import Derived.OpenShut
import Derived.ShutString
import Derived.ChangeOld
import Derived.Below
import Derived.SizedLaws
namespace Go.Proofs.Ytklpljkjknncgaa.leOrder
open Go.ChangeShapes Go.WideShapes Go.ChangeAt Go.RowKit
open Go.ChangeMaps (open_string shut_string)
set_option linter.unusedVariables false

theorem own : ownKnob Try.prog.godebug = none := by kernel_rfl

set_option maxHeartbeats 400000 in
theorem walk_not (n m width : Int) (w : World) (hn : n ≤ 9223372036854775807) (hm : m ≤ 9223372036854775807) (he : (mBytes n width).2 ≠ 0 ∨ ((mBytes n width).2 = 0 ∧ (mBytes m width).2 ≠ 0)) :
    Calls Try.prog 6 #[.int .i64 n, .int .i64 m, .int .i64 width] w fun e w' => e = .returned (.bool true) ∧ Below w.heap.size w w' := by
  have HN := fun W => Lib.hid (leBytes_any n width W hn)
  have HM := fun W => Lib.hid (leBytes_any m width W hm)
  generalize mBytes n width = r at *
  generalize mBytes m width = s at *
  have key : (r.2 != 0) = true ∨ ((r.2 != 0) = false ∧ (s.2 != 0) = true) := by
    rcases he with h | ⟨h, h'⟩
    · exact .inl (by rw [bne_iff_ne]; exact h)
    · exact .inr ⟨by rw [bne_eq_false_iff_eq]; exact h, by rw [bne_iff_ne]; exact h'⟩
  clear he
  rcases key with h1 | ⟨h1, h2⟩
  all_goals
    go_enter Try.func6, Try.ntmps6
    go_wp2_with fail
    refine (HN w).out.mono ?_
    rintro e w1 ⟨v1, rfl, ho1, hb1⟩
    clear ho1
    have HB1 := Lib.hid hb1
    clear hb1
    go_wp2_with fail
    refine (HM w1).out.mono ?_
    rintro e w2 ⟨v2, rfl, ho2, hb2⟩
    clear ho2
    have HB2 := Lib.hid (HB1.out.trans (hb2.mono HB1.out.size))
    clear hb2
    go_wp2_with fail
    refine (awake_any w2).mono ?_
    rintro e w3 ⟨rfl, hb3⟩
    have HB3 := Lib.hid (HB2.out.trans (hb3.mono HB2.out.size))
    clear hb3
    go_wp2_with fail
    refine (awake_any w3).mono ?_
    rintro e w4 ⟨rfl, hb4⟩
    go_wp2
    go_ret
    exact ⟨rfl, HB3.out.trans (hb4.mono HB3.out.size)⟩

set_option maxHeartbeats 800000 in
theorem walk_yes (n m width : Int) (w : World) (hn : n ≤ 9223372036854775807) (hm : m ≤ 9223372036854775807) (he : (mBytes n width).2 = 0) (he' : (mBytes m width).2 = 0) :
    Calls Try.prog 6 #[.int .i64 n, .int .i64 m, .int .i64 width] w fun e w' => e = .returned (.bool true) ∧ Below w.heap.size w w' := by
  obtain ⟨hw1, hw8, h0, hlt, hr⟩ := mBytes_ok' he
  obtain ⟨_, _, h0', hlt', hr'⟩ := mBytes_ok' he'
  have HN := fun W => Lib.hid (leBytes_any n width W hn)
  have HM := fun W => Lib.hid (leBytes_any m width W hm)
  rw [hr] at HN
  rw [hr'] at HM
  clear he he' hr hr'
  obtain ⟨a, rfl⟩ := Int.eq_ofNat_of_zero_le h0
  obtain ⟨b, rfl⟩ := Int.eq_ofNat_of_zero_le h0'
  obtain ⟨W, rfl⟩ := Int.eq_ofNat_of_zero_le (show 0 ≤ width by omega)
  simp only [Int.toNat_natCast] at HN HM hlt hlt'
  have HLT := Lib.hid hlt
  have HLT' := Lib.hid hlt'
  clear hlt hlt' h0 h0'
  go_enter Try.func6, Try.ntmps6
  go_wp2_with fail
  refine (HN w).out.mono ?_
  rintro e w1 ⟨v1, rfl, ho1, hb1⟩
  rw [digs_length] at ho1
  obtain ⟨A1, c1, rfl, _, _, hr1, _⟩ := own_form ho1
  have HB1 := Lib.hid hb1
  have HR1 := Lib.hid hr1
  clear ho1 hb1 hr1
  go_wp2_with fail
  refine (HM w1).out.mono ?_
  rintro e w2 ⟨v2, rfl, ho2, hb2⟩
  rw [digs_length] at ho2
  obtain ⟨A2, c2, rfl, _, _, hr2, _⟩ := own_form ho2
  have HB2 := Lib.hid (HB1.out.trans (hb2.mono HB1.out.size))
  have HR1' := Lib.hid (HR1.out.below hb2)
  have HR2 := Lib.hid hr2
  clear ho2 hb2 hr2
  go_wp2_with fail
  refine (awake_any w2).mono ?_
  rintro e w3 ⟨rfl, hb3⟩
  have HB3 := Lib.hid (HB2.out.trans (hb3.mono HB2.out.size))
  have HR1'' := Lib.hid (HR1'.out.over hb3)
  have HR2' := Lib.hid (HR2.out.over hb3)
  clear hb3
  go_wp2
  go_loopw [11] (fun i wr => ∃ k : Nat, k ≤ W ∧ i = .int .i64 ((k : Int) - 1) ∧ Hid (a / 256 ^ k = b / 256 ^ k) ∧ Below w3.heap.size w3 wr) (fun i _ => (intOf i + 1).toNat)
  case atStart => exact ⟨W, Nat.le_refl _, rfl, by show _ = _; rw [Nat.div_eq_of_lt HLT.out, Nat.div_eq_of_lt HLT'.out], Below.refl _ _⟩
  case round =>
    obtain ⟨k, hk, rfl, hab, hbel⟩ := hrel
    have HBE := Lib.hid (HB3.out.trans (hbel.mono HB3.out.size))
    by_cases hk0 : 1 ≤ k
    · obtain ⟨j, rfl⟩ : ∃ j, k = j + 1 := ⟨k - 1, by omega⟩
      have hj1 : ((j + 1 : Nat) : Int) - 1 = (j : Int) := by omega
      rw [hj1]
      obtain ⟨b1, o1, rfl, _, hc1⟩ := (HR1''.out.over hbel).form (by omega)
      obtain ⟨b2, o2, rfl, _, hc2⟩ := (HR2'.out.over hbel).form (by omega)
      have hx1 := hc1 j _ (bv_digs_get a W j (by omega))
      have hx2 := hc2 j _ (bv_digs_get b W j (by omega))
      have hjW : (j : Int) < (W : Int) := by omega
      have hj0 : (0 : Int) ≤ (j : Int) := by omega
      have hst := div_step a j
      have hst' := div_step b j
      have HBEL := Lib.hid hbel
      clear hc1 hc2 hk0 hbel hj1
      by_cases hd : dig a j = dig b j
      · have hq : ((dig a j : Int) != (dig b j : Int)) = false := by rw [bne_eq_false_iff_eq]; omega
        have HQ : Hid (a / 256 ^ j = b / 256 ^ j) := by show _ = _; rw [hst, hst', hab.out, hd]
        clear hst hst' hd
        generalize dig a j = x at *
        generalize dig b j = y at *
        go_wp2
        go_quiet (fail)
        go_wp2
        go_roundw
        case rel => exact ⟨j, by omega, rfl, HQ, below_drewN HBEL.out _⟩
        case measure => simp [intOf]
      · have hq : ((dig a j : Int) != (dig b j : Int)) = true := by rw [bne_iff_ne]; omega
        by_cases hl : dig a j < dig b j
        · have hab' := order_of hab.out hl
          have hi : (dig a j : Int) < (dig b j : Int) := by omega
          have hi' : (a : Int) < (b : Int) := by omega
          have hne : ((a : Int) != (b : Int)) = true := by rw [bne_iff_ne]; omega
          clear hst hst' hd hl hab'
          generalize dig a j = x at *
          generalize dig b j = y at *
          go_wp2
          go_quiet (fail)
          go_wp2
          go_quiet (fail)
          go_wp2
          go_ret
          exact ⟨by simp, by first | exact below_drewN HBE.out _ | exact below_drewN (below_drewN HBE.out _) _⟩
        · have hl' : dig b j < dig a j := by omega
          have hab' := order_of hab.out.symm hl'
          have hi : decide (dig a j < dig b j) = false := by rw [decide_eq_false_iff_not]; omega
          have hi' : decide (a < b) = false := by rw [decide_eq_false_iff_not]; omega
          have hne : ((a : Int) != (b : Int)) = true := by rw [bne_iff_ne]; omega
          clear hst hst' hd hl hab' hl'
          generalize dig a j = x at *
          generalize dig b j = y at *
          go_wp2
          go_quiet (fail)
          go_wp2
          go_quiet (fail)
          go_wp2
          go_ret
          exact ⟨by simp, by first | exact below_drewN HBE.out _ | exact below_drewN (below_drewN HBE.out _) _⟩
    · have hk' : k = 0 := by omega
      have hab0 : (a : Int) = (b : Int) := by
        have := hab.out
        rw [hk'] at this
        simp at this
        omega
      have hq : ((a : Int) == (b : Int)) = true := by rw [beq_iff_eq]; exact hab0
      subst hk'
      clear hab0 hk0
      have HBEL := Lib.hid hbel
      clear hbel
      go_wp2
      go_ret
      exact ⟨by simp, HBE.out⟩

theorem walk (n m width : Int) (w : World) (hn : (Lit.int .i64 n).wf = true) (hm : (Lit.int .i64 m).wf = true) (_hw : (Lit.int .i64 width).wf = true) :
    Calls Try.prog 6 #[.int .i64 n, .int .i64 m, .int .i64 width] w fun e w' => e = .returned (.bool true) ∧ Below w.heap.size w w' := by
  by_cases he : (mBytes n width).2 = 0
  · by_cases he' : (mBytes m width).2 = 0
    · exact walk_yes n m width w (bounds_i64 hn).2 (bounds_i64 hm).2 he he'
    · exact walk_not n m width w (bounds_i64 hn).2 (bounds_i64 hm).2 (.inr ⟨he, he'⟩)
  · exact walk_not n m width w (bounds_i64 hn).2 (bounds_i64 hm).2 (.inl he)

set_option maxRecDepth 100000 in
theorem lifted (os : Os) (started : os.Started) (H : Type) (enc : TypeId × Value → H) :
    ReturnsInHanded {} Try.checked os 6 .any (Rows.leOrderSpec.pre6 enc Try.prog Try.f6 Rows.leOrderRow.domain false) (Rows.leOrderSpec.post enc Try.prog Try.f6 false true false false) := by
  refine returnsInHanded_of_change_sized (C := Try.checked) own started (by kernel_rfl) Try.func6
    (ChangeSpec.witness6 (enc := enc) (C := Try.checked) false ⟨#[], #[.int .i64 0, .int .i64 0, .int .i64 0], []⟩ 8 (by kernel_rfl) (by kernel_rfl) (by kernel_rfl) (by kernel_rfl)) ?_
  intro W base args ds gs before hval0 hW hcnd hsz0 _
  have hsz : (DataW.weightsEach Try.prog (Try.f6.params.toList ++ Rows.leOrderSpec.plain.varTypes Try.prog) (ds ++ gs)).all (· ≤ reachBytes) = true := hsz0
  have hval : ∀ (j : Nat) t v, Try.f6.params[j]? = some t → args[j]? = some v → Value.okWide Try.prog W .any base t v := hval0
  have hW' := hW
  obtain ⟨p, q, hA0, hV, rfl, hfz, hnd⟩ := hW
  have hA : DataW.TrodAll enc Try.prog W 0 (fun _ => true) true Try.f6.params.toList args.toList ds p := hA0
  rw [Try.params6] at hA hval hsz
  obtain ⟨v0, vs0, d0, ds0, p0, q0, hargs, rfl, rfl, h0, r0⟩ := trodAll_cons hA
  obtain ⟨v1, vs1, d1, ds1, p1, q1, rfl, rfl, rfl, h1, r1⟩ := trodAll_cons r0
  obtain ⟨v2, vs2, d2, ds2, p2, q2, rfl, rfl, rfl, h2, r2⟩ := trodAll_cons r1
  obtain ⟨rfl, rfl, rfl⟩ := trodAll_nil r2
  obtain rfl : args = #[v0, v1, v2] := by cases args; simp_all
  obtain ⟨rfl, rfl⟩ := trodVars_none hV
  obtain ⟨a0, rfl, rfl, rfl, w0⟩ := open_int Try.underlying3 (hval 0 3 v0 rfl rfl) h0
  obtain ⟨a1, rfl, rfl, rfl, w1⟩ := open_int Try.underlying3 (hval 1 3 v1 rfl rfl) h1
  obtain ⟨a2, rfl, rfl, rfl, w2⟩ := open_int Try.underlying3 (hval 2 3 v2 rfl rfl) h2
  clear hA0 hval0 hsz0
  refine (walk a0 a1 a2 W w0 w1 w2).mono fun e W' ⟨he, bel⟩ => ?_
  subst he
  exact ⟨_, rfl, _, _, _, [], _, [], hW', trodAll_mk1 (shut_bool Try.underlying4 _), (trodAll_cons_mk (shut_int Try.underlying3 w0) (trodAll_cons_mk (shut_int Try.underlying3 w1) (trodAll_cons_mk (shut_int Try.underlying3 w2) trodAll_mk0))), rfl, bel.frame _, fun h => by cases h⟩

theorem over : Rows.leOrderRow.holds Try.pinned (OpenSpec.ofChange Rows.leOrderSpec) :=
  OpenClaim.holds_of_wide 6 Try.f6 rfl rfl rfl rfl rfl rfl rfl ⟨rfl, rfl, rfl, rfl, rfl⟩ rfl rfl rfl rfl rfl (by kernel_rfl) Try.func6 (by kernel_rfl)
    (of_decide_eq_true (by kernel_rfl)) (by unfold Func.isWrapper; first | (rw [if_pos (by decide +kernel)]; kernel_rfl) | (rw [if_neg (by decide +kernel)]; exact ⟨rfl, rfl⟩))
    (fun os started H enc _ => lifted os started H enc)

/-- The statement. -/
theorem proved : Rows.LeOrderSaid := over
#print axioms proved
end Go.Proofs.Ytklpljkjknncgaa.leOrder
