/- The statement RangesSets: any number is in a mix just if it should be, and the mixes have as many numbers as they should. No conditions. -/
import Derived.Test.YtfdmbgaincmefaaRows
import Derived.Test.YtfdmbgaincmefaaOpen
import Derived.Test.YtfdmbgaincmefaaOpenR
import Derived.Test.YtfdmbgaincmefaaRngH
import Derived.WalkKit
import Derived.Deep.DeepCutAuto
import Derived.ProofKit
import Derived.OpenShut
import Derived.ShutString
import Derived.ChangeOld
import Derived.Below
import Derived.SizedLaws
import Derived.JoinedCond
namespace Go.Proofs.Ytfdmbgaincmefaa.rangesSets
open Go.ChangeShapes Go.WideShapes Go.ChangeAt Go.RowKit
open Go.ChangeMaps (open_string shut_string)
set_option linter.unusedVariables false

theorem own : ownKnob Try.prog.godebug = none := by kernel_rfl
theorem laidOut : laidOutB Try.prog = true := by kernel_rfl

set_option maxHeartbeats 800000 in
theorem walk_long (A : Option Addr) (a : List Rg) (c : Nat) (A' : Option Addr) (b : List Rg) (c' : Nat) (n : Int) (w : World) (h : (decide (60 < a.length) || decide (60 < b.length)) = true) :
    Calls Try.prog 6 #[.slice A a.length c, .slice A' b.length c', .int .i64 n] w fun e w' => e = .returned (.bool true) ∧ Below w.heap.size w w' := by
  have HL := fun w => Lib.hid (long_any a b A A' c c' w)
  rw [h] at HL
  clear h
  go_enter Try.func6, Try.ntmps6
  go_wp2_with fail
  refine (awake_any _).mono ?_
  rintro e w1 ⟨rfl, hb1⟩
  go_wp2_with fail
  refine (HL w1).out.mono ?_
  rintro e w2 ⟨rfl, rfl⟩
  go_wp2_with fail
  refine (awake_any _).mono ?_
  rintro e w2 ⟨rfl, hb2⟩
  go_wp2
  go_ret
  exact ⟨rfl, hb1.trans (hb2.mono hb1.size)⟩

theorem part_of (p q : Prop) : (p ∧ ¬ q) ∨ (p ∧ q) ↔ p := by
  by_cases hq : q <;> simp [hq]

set_option maxRecDepth 100000 in
set_option maxHeartbeats 3200000 in
theorem walk_short (A : Option Addr) (a : List Rg) (c : Nat) (A' : Option Addr) (b : List Rg) (c' : Nat) (n : Int) (w : World) (ia : RgIn w A a) (ib : RgIn w A' b) (ha : a.length ≤ 60) (hb : b.length ≤ 60) (hn1 : -9223372036854775808 ≤ n) (hn2 : n ≤ 9223372036854775807) (h : (decide (60 < a.length) || decide (60 < b.length)) = false) :
    Calls Try.prog 6 #[.slice A a.length c, .slice A' b.length c', .int .i64 n] w fun e w' => e = .returned (.bool true) ∧ Below w.heap.size w w' := by
  have HL := fun w => Lib.hid (long_any a b A A' c c' w)
  rw [h] at HL
  clear h
  have IA := Lib.hid ia
  have IB := Lib.hid ib
  clear ia ib
  go_enter Try.func6, Try.ntmps6
  go_wp2_with fail
  refine (awake_any _).mono ?_
  rintro e w1 ⟨rfl, hb1⟩
  have U1 := Lib.hid (show Und w w1 from hb1)
  clear hb1
  go_wp2_with fail
  refine (HL w1).out.mono ?_
  rintro e w2 ⟨rfl, rfl⟩
  have I_a_1 := Lib.hid (IA.out.und U1.out)
  have I_b_1 := Lib.hid (IB.out.und U1.out)
  go_wp2_with fail
  refine (rEither_any a b A A' c c' w1 I_a_1.out I_b_1.out).mono ?_
  rintro e w2 ⟨A_e, c_e, L_e, rfl, r_e, n_e, hb_e⟩
  have b_e := canon_length n_e
  have J := Lib.hid (mix_in (Or.inl rfl) (by omega) (by omega) I_a_1.out.2.2 I_b_1.out.2.2 r_e n_e)
  have N_e := Lib.hid n_e
  clear r_e n_e
  have U2 := Lib.hid (und_call U1.out hb_e)
  have I_a_2 := Lib.hid (I_a_1.out.below hb_e)
  have I_b_2 := Lib.hid (I_b_1.out.below hb_e)
  clear U1 I_a_1 I_b_1 hb_e
  have I_e_2 := J
  clear J
  go_wp2_with fail
  refine (rBoth_any a b A A' c c' w2 I_a_2.out I_b_2.out).mono ?_
  rintro e w3 ⟨A_o, c_o, L_o, rfl, r_o, n_o, hb_o⟩
  have b_o := canon_length n_o
  have J := Lib.hid (mix_in (Or.inr (Or.inl rfl)) (by omega) (by omega) I_a_2.out.2.2 I_b_2.out.2.2 r_o n_o)
  have N_o := Lib.hid n_o
  clear r_o n_o
  have U3 := Lib.hid (und_call U2.out hb_o)
  have I_a_3 := Lib.hid (I_a_2.out.below hb_o)
  have I_b_3 := Lib.hid (I_b_2.out.below hb_o)
  have I_e_3 := Lib.hid (I_e_2.out.below hb_o)
  clear U2 I_a_2 I_b_2 I_e_2 hb_o
  have I_o_3 := J
  clear J
  go_wp2_with fail
  refine (rLess_any a b A A' c c' w3 I_a_3.out I_b_3.out).mono ?_
  rintro e w4 ⟨A_l, c_l, L_l, rfl, r_l, n_l, hb_l⟩
  have b_l := canon_length n_l
  have J := Lib.hid (mix_in (Or.inr (Or.inr rfl)) (by omega) (by omega) I_a_3.out.2.2 I_b_3.out.2.2 r_l n_l)
  have N_l := Lib.hid n_l
  clear r_l n_l
  have U4 := Lib.hid (und_call U3.out hb_l)
  have I_a_4 := Lib.hid (I_a_3.out.below hb_l)
  have I_b_4 := Lib.hid (I_b_3.out.below hb_l)
  have I_e_4 := Lib.hid (I_e_3.out.below hb_l)
  have I_o_4 := Lib.hid (I_o_3.out.below hb_l)
  clear U3 I_a_3 I_b_3 I_e_3 I_o_3 hb_l
  have I_l_4 := J
  clear J
  go_wp2_with fail
  refine (rHas_any a n A c w4 I_a_4.out hn1 hn2).mono ?_
  rintro e w5 ⟨rfl, hbs1⟩
  have U5 := Lib.hid (und_call U4.out hbs1)
  have I_a_5 := Lib.hid (I_a_4.out.below hbs1)
  have I_b_5 := Lib.hid (I_b_4.out.below hbs1)
  have I_e_5 := Lib.hid (I_e_4.out.below hbs1)
  have I_o_5 := Lib.hid (I_o_4.out.below hbs1)
  have I_l_5 := Lib.hid (I_l_4.out.below hbs1)
  clear U4 I_a_4 I_b_4 I_e_4 I_o_4 I_l_4 hbs1
  go_wp2_with fail
  refine (rHas_any b n A' c' w5 I_b_5.out hn1 hn2).mono ?_
  rintro e w6 ⟨rfl, hbs2⟩
  have U6 := Lib.hid (und_call U5.out hbs2)
  have I_a_6 := Lib.hid (I_a_5.out.below hbs2)
  have I_b_6 := Lib.hid (I_b_5.out.below hbs2)
  have I_e_6 := Lib.hid (I_e_5.out.below hbs2)
  have I_o_6 := Lib.hid (I_o_5.out.below hbs2)
  have I_l_6 := Lib.hid (I_l_5.out.below hbs2)
  clear U5 I_a_5 I_b_5 I_e_5 I_o_5 I_l_5 hbs2
  have H_e := Lib.hid (has0 N_e.out n)
  have H_o := Lib.hid (has1 N_o.out n)
  have H_l := Lib.hid (has2 N_l.out n)
  generalize hasR a n = bx at *
  generalize hasR b n = by' at *
  go_upto_region 5 with fail
  go_cut [63] (fun s wx => s = .bool false ∧ Und w6 wx)
  case first =>
    have V6 := Lib.hid (und_refl w6)
    clear U6
    rcases bx with _ | _ <;> rcases by' with _ | _
    all_goals
      have U6 := V6
      go_wp2_with fail
      refine (rHas_any L_e n A_e c_e w6 I_e_6.out hn1 hn2).mono ?_
      rw [H_e.out]
      rintro e w7 ⟨rfl, hbs3⟩
      have U7 := Lib.hid (und_call U6.out hbs3)
      have I_a_7 := Lib.hid (I_a_6.out.below hbs3)
      have I_b_7 := Lib.hid (I_b_6.out.below hbs3)
      have I_e_7 := Lib.hid (I_e_6.out.below hbs3)
      have I_o_7 := Lib.hid (I_o_6.out.below hbs3)
      have I_l_7 := Lib.hid (I_l_6.out.below hbs3)
      clear U6 I_a_6 I_b_6 I_e_6 I_o_6 I_l_6 hbs3
      go_wp2_with fail
      refine (rHas_any L_o n A_o c_o w7 I_o_7.out hn1 hn2).mono ?_
      rw [H_o.out]
      rintro e w8 ⟨rfl, hbs4⟩
      have U8 := Lib.hid (und_call U7.out hbs4)
      have I_a_8 := Lib.hid (I_a_7.out.below hbs4)
      have I_b_8 := Lib.hid (I_b_7.out.below hbs4)
      have I_e_8 := Lib.hid (I_e_7.out.below hbs4)
      have I_o_8 := Lib.hid (I_o_7.out.below hbs4)
      have I_l_8 := Lib.hid (I_l_7.out.below hbs4)
      clear U7 I_a_7 I_b_7 I_e_7 I_o_7 I_l_7 hbs4
      go_wp2_with fail
      refine (rHas_any L_l n A_l c_l w8 I_l_8.out hn1 hn2).mono ?_
      rw [H_l.out]
      rintro e w9 ⟨rfl, hbs5⟩
      have U9 := Lib.hid (und_call U8.out hbs5)
      have I_a_9 := Lib.hid (I_a_8.out.below hbs5)
      have I_b_9 := Lib.hid (I_b_8.out.below hbs5)
      have I_e_9 := Lib.hid (I_e_8.out.below hbs5)
      have I_o_9 := Lib.hid (I_o_8.out.below hbs5)
      have I_l_9 := Lib.hid (I_l_8.out.below hbs5)
      clear U8 I_a_8 I_b_8 I_e_8 I_o_8 I_l_8 hbs5
      go_wp2_with fail
      go_meet
      exact ⟨rfl, U9.out⟩
  obtain ⟨rfl, hcu⟩ := hcut
  obtain ⟨w7, rfl⟩ : ∃ w7 : World, w7 = wc := ⟨_, rfl⟩
  have U7 := Lib.hid (und_call U6.out hcu)
  have I_a_7 := Lib.hid (I_a_6.out.below hcu)
  have I_b_7 := Lib.hid (I_b_6.out.below hcu)
  have I_e_7 := Lib.hid (I_e_6.out.below hcu)
  have I_o_7 := Lib.hid (I_o_6.out.below hcu)
  have I_l_7 := Lib.hid (I_l_6.out.below hcu)
  clear U6 I_a_6 I_b_6 I_e_6 I_o_6 I_l_6 hcu
  have R_e : Hid (isRight L_e = true) := Lib.hid ((isRight_iff L_e).2 N_e.out.1)
  have R_o : Hid (isRight L_o = true) := Lib.hid ((isRight_iff L_o).2 N_o.out.1)
  have R_l : Hid (isRight L_l = true) := Lib.hid ((isRight_iff L_l).2 N_l.out.1)
  go_wp2_with fail
  refine (rRight_any L_e A_e c_e w7 I_e_7.out).mono ?_
  rw [R_e.out]
  rintro e w8 ⟨rfl, hbs3⟩
  have U8 := Lib.hid (und_call U7.out hbs3)
  have I_a_8 := Lib.hid (I_a_7.out.below hbs3)
  have I_b_8 := Lib.hid (I_b_7.out.below hbs3)
  have I_e_8 := Lib.hid (I_e_7.out.below hbs3)
  have I_o_8 := Lib.hid (I_o_7.out.below hbs3)
  have I_l_8 := Lib.hid (I_l_7.out.below hbs3)
  clear U7 I_a_7 I_b_7 I_e_7 I_o_7 I_l_7 hbs3
  go_wp2_with fail
  refine (rRight_any L_o A_o c_o w8 I_o_8.out).mono ?_
  rw [R_o.out]
  rintro e w9 ⟨rfl, hbs4⟩
  have U9 := Lib.hid (und_call U8.out hbs4)
  have I_a_9 := Lib.hid (I_a_8.out.below hbs4)
  have I_b_9 := Lib.hid (I_b_8.out.below hbs4)
  have I_e_9 := Lib.hid (I_e_8.out.below hbs4)
  have I_o_9 := Lib.hid (I_o_8.out.below hbs4)
  have I_l_9 := Lib.hid (I_l_8.out.below hbs4)
  clear U8 I_a_8 I_b_8 I_e_8 I_o_8 I_l_8 hbs4
  go_wp2_with fail
  refine (rRight_any L_l A_l c_l w9 I_l_9.out).mono ?_
  rw [R_l.out]
  rintro e w10 ⟨rfl, hbs5⟩
  have U10 := Lib.hid (und_call U9.out hbs5)
  have I_a_10 := Lib.hid (I_a_9.out.below hbs5)
  have I_b_10 := Lib.hid (I_b_9.out.below hbs5)
  have I_e_10 := Lib.hid (I_e_9.out.below hbs5)
  have I_o_10 := Lib.hid (I_o_9.out.below hbs5)
  have I_l_10 := Lib.hid (I_l_9.out.below hbs5)
  clear U9 I_a_9 I_b_9 I_e_9 I_o_9 I_l_9 hbs5
  have T1 := tot01 N_e.out N_o.out
  have T2 := tot21 N_l.out N_o.out
  have t1 := totN_le a
  have t2 := totN_le b
  have t3 := totN_le L_e
  have t4 := totN_le L_o
  have t5 := totN_le L_l
  generalize hta : totN a = ta at *
  generalize htb : totN b = tb at *
  generalize hte : totN L_e = te at *
  generalize hto : totN L_o = tq at *
  generalize htl : totN L_l = tl at *
  have HTA := Lib.hid hta
  clear hta
  have HTB := Lib.hid htb
  clear htb
  have HTE := Lib.hid hte
  clear hte
  have HTO := Lib.hid hto
  clear hto
  have HTL := Lib.hid htl
  clear htl
  have hne1 : (((te : Int) + (tq : Int)) != ((ta : Int) + (tb : Int))) = false := by rw [bne_eq_false_iff_eq]; omega
  have hne2 : (((tl : Int) + (tq : Int)) != (ta : Int)) = false := by rw [bne_eq_false_iff_eq]; omega
  have T1' := Lib.hid T1
  have T2' := Lib.hid T2
  have hs1 : (tl : Int) + (tq : Int) ≤ 9223372036854775807 := by omega
  clear T1 T2
  go_wp2_with fail
  refine (rTotal_any L_e A_e c_e w10 I_e_10.out).mono ?_
  rw [HTE.out]
  rintro e w11 ⟨rfl, hbs6⟩
  have U11 := Lib.hid (und_call U10.out hbs6)
  have I_a_11 := Lib.hid (I_a_10.out.below hbs6)
  have I_b_11 := Lib.hid (I_b_10.out.below hbs6)
  have I_e_11 := Lib.hid (I_e_10.out.below hbs6)
  have I_o_11 := Lib.hid (I_o_10.out.below hbs6)
  have I_l_11 := Lib.hid (I_l_10.out.below hbs6)
  clear U10 I_a_10 I_b_10 I_e_10 I_o_10 I_l_10 hbs6
  go_wp2_with fail
  refine (rTotal_any L_o A_o c_o w11 I_o_11.out).mono ?_
  rw [HTO.out]
  rintro e w12 ⟨rfl, hbs7⟩
  have U12 := Lib.hid (und_call U11.out hbs7)
  have I_a_12 := Lib.hid (I_a_11.out.below hbs7)
  have I_b_12 := Lib.hid (I_b_11.out.below hbs7)
  have I_e_12 := Lib.hid (I_e_11.out.below hbs7)
  have I_o_12 := Lib.hid (I_o_11.out.below hbs7)
  have I_l_12 := Lib.hid (I_l_11.out.below hbs7)
  clear U11 I_a_11 I_b_11 I_e_11 I_o_11 I_l_11 hbs7
  go_wp2_with fail
  refine (rTotal_any a A c w12 I_a_12.out).mono ?_
  rw [HTA.out]
  rintro e w13 ⟨rfl, hbs8⟩
  have U13 := Lib.hid (und_call U12.out hbs8)
  have I_a_13 := Lib.hid (I_a_12.out.below hbs8)
  have I_b_13 := Lib.hid (I_b_12.out.below hbs8)
  have I_e_13 := Lib.hid (I_e_12.out.below hbs8)
  have I_o_13 := Lib.hid (I_o_12.out.below hbs8)
  have I_l_13 := Lib.hid (I_l_12.out.below hbs8)
  clear U12 I_a_12 I_b_12 I_e_12 I_o_12 I_l_12 hbs8
  go_wp2_with fail
  refine (rTotal_any b A' c' w13 I_b_13.out).mono ?_
  rw [HTB.out]
  rintro e w14 ⟨rfl, hbs9⟩
  have U14 := Lib.hid (und_call U13.out hbs9)
  have I_a_14 := Lib.hid (I_a_13.out.below hbs9)
  have I_b_14 := Lib.hid (I_b_13.out.below hbs9)
  have I_e_14 := Lib.hid (I_e_13.out.below hbs9)
  have I_o_14 := Lib.hid (I_o_13.out.below hbs9)
  have I_l_14 := Lib.hid (I_l_13.out.below hbs9)
  clear U13 I_a_13 I_b_13 I_e_13 I_o_13 I_l_13 hbs9
  go_wp2_with fail
  refine (rTotal_any L_l A_l c_l w14 I_l_14.out).mono ?_
  rw [HTL.out]
  rintro e w15 ⟨rfl, hbs10⟩
  have U15 := Lib.hid (und_call U14.out hbs10)
  have I_a_15 := Lib.hid (I_a_14.out.below hbs10)
  have I_b_15 := Lib.hid (I_b_14.out.below hbs10)
  have I_e_15 := Lib.hid (I_e_14.out.below hbs10)
  have I_o_15 := Lib.hid (I_o_14.out.below hbs10)
  have I_l_15 := Lib.hid (I_l_14.out.below hbs10)
  clear U14 I_a_14 I_b_14 I_e_14 I_o_14 I_l_14 hbs10
  go_wp2_with fail
  refine (rTotal_any L_o A_o c_o w15 I_o_15.out).mono ?_
  rw [HTO.out]
  rintro e w16 ⟨rfl, hbs11⟩
  have U16 := Lib.hid (und_call U15.out hbs11)
  have I_a_16 := Lib.hid (I_a_15.out.below hbs11)
  have I_b_16 := Lib.hid (I_b_15.out.below hbs11)
  have I_e_16 := Lib.hid (I_e_15.out.below hbs11)
  have I_o_16 := Lib.hid (I_o_15.out.below hbs11)
  have I_l_16 := Lib.hid (I_l_15.out.below hbs11)
  clear U15 I_a_15 I_b_15 I_e_15 I_o_15 I_l_15 hbs11
  go_wp2_with fail
  refine (rTotal_any a A c w16 I_a_16.out).mono ?_
  rw [HTA.out]
  rintro e w17 ⟨rfl, hbs12⟩
  have U17 := Lib.hid (und_call U16.out hbs12)
  have I_a_17 := Lib.hid (I_a_16.out.below hbs12)
  have I_b_17 := Lib.hid (I_b_16.out.below hbs12)
  have I_e_17 := Lib.hid (I_e_16.out.below hbs12)
  have I_o_17 := Lib.hid (I_o_16.out.below hbs12)
  have I_l_17 := Lib.hid (I_l_16.out.below hbs12)
  clear U16 I_a_16 I_b_16 I_e_16 I_o_16 I_l_16 hbs12
  go_wp2_with fail
  refine (rEither_any L_l L_o A_l A_o c_l c_o w17 I_l_17.out I_o_17.out).mono ?_
  rintro e w18 ⟨A_p, c_p, L_p, rfl, r_p, n_p, hb_p⟩
  have b_p := canon_length n_p
  have J := Lib.hid (mix_in (Or.inl rfl) (by omega) (by omega) I_l_17.out.2.2 I_o_17.out.2.2 r_p n_p)
  have N_p := Lib.hid n_p
  clear r_p n_p
  have U18 := Lib.hid (und_call U17.out hb_p)
  have I_a_18 := Lib.hid (I_a_17.out.below hb_p)
  have I_b_18 := Lib.hid (I_b_17.out.below hb_p)
  have I_e_18 := Lib.hid (I_e_17.out.below hb_p)
  have I_o_18 := Lib.hid (I_o_17.out.below hb_p)
  have I_l_18 := Lib.hid (I_l_17.out.below hb_p)
  clear U17 I_a_17 I_b_17 I_e_17 I_o_17 I_l_17 hb_p
  have I_p_18 := J
  clear J
  go_wp2_with fail
  refine (rNormal_any a A c w18 I_a_18.out).mono ?_
  rintro e w19 ⟨A_q, c_q, L_q, rfl, r_q, n_q, hb_q⟩
  have b_q := canon_length n_q
  simp only [List.length_nil] at b_q
  have J := Lib.hid (mix_in (Or.inl rfl) (by omega) (by simp) I_a_18.out.2.2 fits_nil r_q n_q)
  have N_q := Lib.hid n_q
  clear r_q n_q
  have U19 := Lib.hid (und_call U18.out hb_q)
  have I_a_19 := Lib.hid (I_a_18.out.below hb_q)
  have I_b_19 := Lib.hid (I_b_18.out.below hb_q)
  have I_e_19 := Lib.hid (I_e_18.out.below hb_q)
  have I_o_19 := Lib.hid (I_o_18.out.below hb_q)
  have I_l_19 := Lib.hid (I_l_18.out.below hb_q)
  have I_p_19 := Lib.hid (I_p_18.out.below hb_q)
  clear U18 I_a_18 I_b_18 I_e_18 I_o_18 I_l_18 I_p_18 hb_q
  have I_q_19 := J
  clear J
  have E13 := Lib.hid (decide_eq_true (p := L_p = L_q) (right_unique N_p.out.1 N_q.out.1 fun n => by rw [mem0 N_p.out, mem2 N_l.out, mem1 N_o.out, N_q.out.2, wayP_nil]; exact part_of _ _))
  go_wp2_with fail
  refine (refSame_at L_p L_q A_p A_q c_p c_q w19 I_p_19.out I_q_19.out).mono ?_
  rw [E13.out]
  rintro e w20 ⟨rfl, hbs13⟩
  clear E13
  have U20 := Lib.hid (und_call U19.out hbs13)
  have I_a_20 := Lib.hid (I_a_19.out.below hbs13)
  have I_b_20 := Lib.hid (I_b_19.out.below hbs13)
  have I_e_20 := Lib.hid (I_e_19.out.below hbs13)
  have I_o_20 := Lib.hid (I_o_19.out.below hbs13)
  have I_l_20 := Lib.hid (I_l_19.out.below hbs13)
  have I_p_20 := Lib.hid (I_p_19.out.below hbs13)
  have I_q_20 := Lib.hid (I_q_19.out.below hbs13)
  clear U19 I_a_19 I_b_19 I_e_19 I_o_19 I_l_19 I_p_19 I_q_19 hbs13
  go_wp2_with fail
  refine (rBoth_any L_l b A_l A' c_l c' w20 I_l_20.out I_b_20.out).mono ?_
  rintro e w21 ⟨A_z, c_z, L_z, rfl, r_z, n_z, hb_z⟩
  have b_z := canon_length n_z
  have J := Lib.hid (mix_in (Or.inr (Or.inl rfl)) (by omega) (by omega) I_l_20.out.2.2 I_b_20.out.2.2 r_z n_z)
  have N_z := Lib.hid n_z
  clear r_z n_z
  have U21 := Lib.hid (und_call U20.out hb_z)
  have I_a_21 := Lib.hid (I_a_20.out.below hb_z)
  have I_b_21 := Lib.hid (I_b_20.out.below hb_z)
  have I_e_21 := Lib.hid (I_e_20.out.below hb_z)
  have I_o_21 := Lib.hid (I_o_20.out.below hb_z)
  have I_l_21 := Lib.hid (I_l_20.out.below hb_z)
  have I_p_21 := Lib.hid (I_p_20.out.below hb_z)
  have I_q_21 := Lib.hid (I_q_20.out.below hb_z)
  clear U20 I_a_20 I_b_20 I_e_20 I_o_20 I_l_20 I_p_20 I_q_20 hb_z
  have I_z_21 := J
  clear J
  obtain rfl : L_z = [] := empty_of N_z.out.1 fun n => by rw [mem1 N_z.out, mem2 N_l.out]; exact fun h => h.1.2 h.2
  go_wp2
  go_ret
  exact ⟨rfl, U21.out⟩

theorem walk (A : Option Addr) (a : List Rg) (c : Nat) (A' : Option Addr) (b : List Rg) (c' : Nat) (n : Int) (w : World) (_hlc : a.length ≤ c) (_hcm : c ≤ maxLen) (hr : Reads w w.heap.size 2 A a.length (rgv a)) (hf : Fits64 a)
    (_hlc' : b.length ≤ c') (_hcm' : c' ≤ maxLen) (hr' : Reads w w.heap.size 2 A' b.length (rgv b)) (hf' : Fits64 b) (hn : (Lit.int .i64 n).wf = true) :
    Calls Try.prog 6 #[.slice A a.length c, .slice A' b.length c', .int .i64 n] w fun e w' => e = .returned (.bool true) ∧ Below w.heap.size w w' := by
  have hnb := bounds_i64 hn
  rcases h : (decide (60 < a.length) || decide (60 < b.length)) with _ | _
  · have h2 : a.length ≤ 60 ∧ b.length ≤ 60 := by simp at h; omega
    exact walk_short A a c A' b c' n w ⟨hr, by omega, hf⟩ ⟨hr', by omega, hf'⟩ h2.1 h2.2 hnb.1 hnb.2 h
  · exact walk_long A a c A' b c' n w h

set_option maxRecDepth 100000 in
theorem lifted (os : Os) (started : os.Started) (H : Type) (enc : TypeId × Value → H) :
    ReturnsInHanded {} Try.checked os 6 .any (Rows.rangesSetsSpec.pre6 enc Try.prog Try.f6 Rows.rangesSetsRow.domain false) (Rows.rangesSetsSpec.post enc Try.prog Try.f6 false true false false) := by
  refine returnsInHanded_of_change_sized (C := Try.checked) own started (by kernel_rfl) Try.func6
    (ChangeSpec.witness6 (enc := enc) (C := Try.checked) false ⟨#[], #[.slice none 0 0, .slice none 0 0, .int .i64 0], []⟩ 8 (by kernel_rfl) (by kernel_rfl) (by kernel_rfl) (by kernel_rfl)) ?_
  intro W base args ds gs before hval0 hW hcnd hsz0 _
  have hsz : (DataW.weightsEach Try.prog (Try.f6.params.toList ++ Rows.rangesSetsSpec.plain.varTypes Try.prog) (ds ++ gs)).all (· ≤ reachBytes) = true := hsz0
  have hval : ∀ (j : Nat) t v, Try.f6.params[j]? = some t → args[j]? = some v → Value.okWide Try.prog W .any base t v := hval0
  have hW' := hW
  obtain ⟨p, q, hA0, hV, rfl, hfz, hnd⟩ := hW
  have hA : DataW.TrodAll enc Try.prog W 0 (fun _ => true) true Try.f6.params.toList args.toList ds p := hA0
  rw [Try.params6] at hA hval hsz
  obtain ⟨v0, vs0, d0, ds0, p0, q0, hargs, rfl, rfl, h0, r0⟩ := trodAll_cons hA
  obtain ⟨v1, vs1, d1, ds1, p1, q1, rfl, rfl, rfl, h1, r1⟩ := trodAll_cons r0
  obtain ⟨v2, vs2, d2, ds2, p2, q2, rfl, rfl, rfl, h2, r2⟩ := trodAll_cons r1
  obtain ⟨rfl, rfl, rfl⟩ := trodAll_nil r2
  obtain rfl : args = #[v0, v1, v2] := by cases args; simp_all
  obtain ⟨rfl, rfl⟩ := trodVars_none hV
  have k0 := h0
  have lt0 : ∀ x ∈ p0, x.block < W.heap.size := by obtain ⟨m, hm⟩ := k0; exact DataW.trod_lt m _ _ _ hm
  obtain ⟨A0, l0, c0, rfl, hlc0, hcm0, hr0, hf0⟩ := open_ranges Try.underlying22 Try.underlying30 (by kernel_rfl) (by kernel_rfl) Try.underlying3 Try.underlying3 (hval 0 22 v0 rfl rfl) h0
  have k1 := h1
  have lt1 : ∀ x ∈ p1, x.block < W.heap.size := by obtain ⟨m, hm⟩ := k1; exact DataW.trod_lt m _ _ _ hm
  obtain ⟨A1, l1, c1, rfl, hlc1, hcm1, hr1, hf1⟩ := open_ranges Try.underlying22 Try.underlying30 (by kernel_rfl) (by kernel_rfl) Try.underlying3 Try.underlying3 (hval 1 22 v1 rfl rfl) h1
  obtain ⟨a2, rfl, rfl, rfl, w2⟩ := open_int Try.underlying3 (hval 2 3 v2 rfl rfl) h2
  clear hA0 hval0 hsz0
  refine (walk A0 l0 c0 A1 l1 c1 a2 W hlc0 hcm0 hr0 hf0 hlc1 hcm1 hr1 hf1 w2).mono fun e W' ⟨he, bel⟩ => ?_
  subst he
  exact ⟨_, rfl, _, _, _, [], _, [], hW', trodAll_mk1 (shut_bool Try.underlying4 _), (trodAll_cons_mk (Below.trod laidOut (by kernel_rfl) (of_decide_eq_true (by kernel_rfl)) k0 bel lt0) (trodAll_cons_mk (Below.trod laidOut (by kernel_rfl) (of_decide_eq_true (by kernel_rfl)) k1 bel lt1) (trodAll_cons_mk (shut_int Try.underlying3 w2) trodAll_mk0))), rfl, bel.frame _, fun h => by cases h⟩

theorem over : Rows.rangesSetsRow.holds Try.pinned (OpenSpec.ofChange Rows.rangesSetsSpec) :=
  OpenClaim.holds_of_wide 6 Try.f6 rfl rfl rfl rfl rfl rfl rfl ⟨rfl, rfl, rfl, rfl, rfl⟩ rfl rfl rfl rfl rfl (by kernel_rfl) Try.func6 (by kernel_rfl)
    (of_decide_eq_true (by kernel_rfl)) (by unfold Func.isWrapper; first | (rw [if_pos (by decide +kernel)]; kernel_rfl) | (rw [if_neg (by decide +kernel)]; exact ⟨rfl, rfl⟩))
    (fun os started H enc _ => lifted os started H enc)

/-- The statement. -/
theorem proved : Rows.RangesSetsSaid := over
#print axioms proved
end Go.Proofs.Ytfdmbgaincmefaa.rangesSets
