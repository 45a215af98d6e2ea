/- The statement RangesTurned: lists may be changed about, grouped and taken away in any order; what is taken twice is taken once. No conditions. -/
import Derived.Test.YtfdmbgaincmefaaRows
import Derived.Test.YtfdmbgaincmefaaOpen
import Derived.Test.YtfdmbgaincmefaaOpenR
import Derived.Test.YtfdmbgaincmefaaRngH
import Derived.WalkKit
import Derived.ProofKit
import Derived.OpenShut
import Derived.ShutString
import Derived.ChangeOld
import Derived.Below
import Derived.SizedLaws
import Derived.JoinedCond
namespace Go.Proofs.Ytfdmbgaincmefaa.rangesTurned
open Go.ChangeShapes Go.WideShapes Go.ChangeAt Go.RowKit
open Go.ChangeMaps (open_string shut_string)
set_option linter.unusedVariables false

theorem own : ownKnob Try.prog.godebug = none := by kernel_rfl
theorem laidOut : laidOutB Try.prog = true := by kernel_rfl

set_option maxHeartbeats 800000 in
theorem walk_long (A : Option Addr) (a : List Rg) (c : Nat) (A' : Option Addr) (b : List Rg) (c' : Nat) (A'' : Option Addr) (d : List Rg) (c'' : Nat) (w : World) (h : (decide (60 < a.length) || decide (60 < b.length)) = true) :
    Calls Try.prog 7 #[.slice A a.length c, .slice A' b.length c', .slice A'' d.length c''] w fun e w' => e = .returned (.bool true) ∧ Below w.heap.size w w' := by
  have HL := fun w => Lib.hid (long_any a b A A' c c' w)
  rw [h] at HL
  clear h
  go_enter Try.func7, Try.ntmps7
  go_wp2_with fail
  refine (awake_any _).mono ?_
  rintro e w1 ⟨rfl, hb1⟩
  go_wp2_with fail
  refine (HL w1).out.mono ?_
  rintro e w2 ⟨rfl, rfl⟩
  go_wp2_with fail
  refine (awake_any _).mono ?_
  rintro e w2 ⟨rfl, hb2⟩
  go_wp2
  go_ret
  exact ⟨rfl, hb1.trans (hb2.mono hb1.size)⟩

set_option maxHeartbeats 800000 in
theorem walk_third (A : Option Addr) (a : List Rg) (c : Nat) (A' : Option Addr) (b : List Rg) (c' : Nat) (A'' : Option Addr) (d : List Rg) (c'' : Nat) (w : World) (h : (decide (60 < a.length) || decide (60 < b.length)) = false) (h3 : (60 : Int) < (d.length : Int)) :
    Calls Try.prog 7 #[.slice A a.length c, .slice A' b.length c', .slice A'' d.length c''] w fun e w' => e = .returned (.bool true) ∧ Below w.heap.size w w' := by
  have HL := fun w => Lib.hid (long_any a b A A' c c' w)
  rw [h] at HL
  clear h
  go_enter Try.func7, Try.ntmps7
  go_wp2_with fail
  refine (awake_any _).mono ?_
  rintro e w1 ⟨rfl, hb1⟩
  go_wp2_with fail
  refine (HL w1).out.mono ?_
  rintro e w2 ⟨rfl, rfl⟩
  go_wp2_with fail
  refine (awake_any _).mono ?_
  rintro e w2 ⟨rfl, hb2⟩
  go_wp2
  go_ret
  exact ⟨rfl, hb1.trans (hb2.mono hb1.size)⟩

set_option maxRecDepth 100000 in
set_option maxHeartbeats 1600000 in
theorem walk_short (A : Option Addr) (a : List Rg) (c : Nat) (A' : Option Addr) (b : List Rg) (c' : Nat) (A'' : Option Addr) (d : List Rg) (c'' : Nat) (w : World) (ia : RgIn w A a) (ib : RgIn w A' b) (id : RgIn w A'' d) (ha : a.length ≤ 60) (hb : b.length ≤ 60) (hd : d.length ≤ 60) (h : (decide (60 < a.length) || decide (60 < b.length)) = false) :
    Calls Try.prog 7 #[.slice A a.length c, .slice A' b.length c', .slice A'' d.length c''] w fun e w' => e = .returned (.bool true) ∧ Below w.heap.size w w' := by
  have HL := fun w => Lib.hid (long_any a b A A' c c' w)
  rw [h] at HL
  clear h
  have IA := Lib.hid ia
  have IB := Lib.hid ib
  have ID := Lib.hid id
  have h3 : (d.length : Int) ≤ 60 := by omega
  clear ia ib id
  go_enter Try.func7, Try.ntmps7
  go_wp2_with fail
  refine (awake_any _).mono ?_
  rintro e w1 ⟨rfl, hb1⟩
  have U1 := Lib.hid (show Und w w1 from hb1)
  clear hb1
  go_wp2_with fail
  refine (HL w1).out.mono ?_
  rintro e w2 ⟨rfl, rfl⟩
  have I_a_1 := Lib.hid (IA.out.und U1.out)
  have I_b_1 := Lib.hid (IB.out.und U1.out)
  have I_d_1 := Lib.hid (ID.out.und U1.out)
  go_wp2_with fail
  refine (rEither_any a b A A' c c' w1 I_a_1.out I_b_1.out).mono ?_
  rintro e w2 ⟨A_e1, c_e1, L_e1, rfl, r_e1, n_e1, hb_e1⟩
  have b_e1 := canon_length n_e1
  have J := Lib.hid (mix_in (Or.inl rfl) (by omega) (by omega) I_a_1.out.2.2 I_b_1.out.2.2 r_e1 n_e1)
  have N_e1 := Lib.hid n_e1
  clear r_e1 n_e1
  have U2 := Lib.hid (und_call U1.out hb_e1)
  have I_a_2 := Lib.hid (I_a_1.out.below hb_e1)
  have I_b_2 := Lib.hid (I_b_1.out.below hb_e1)
  have I_d_2 := Lib.hid (I_d_1.out.below hb_e1)
  clear U1 I_a_1 I_b_1 I_d_1 hb_e1
  have I_e1_2 := J
  clear J
  go_wp2_with fail
  refine (rEither_any b a A' A c' c w2 I_b_2.out I_a_2.out).mono ?_
  rintro e w3 ⟨A_e2, c_e2, L_e2, rfl, r_e2, n_e2, hb_e2⟩
  have b_e2 := canon_length n_e2
  have J := Lib.hid (mix_in (Or.inl rfl) (by omega) (by omega) I_b_2.out.2.2 I_a_2.out.2.2 r_e2 n_e2)
  have N_e2 := Lib.hid n_e2
  clear r_e2 n_e2
  have U3 := Lib.hid (und_call U2.out hb_e2)
  have I_a_3 := Lib.hid (I_a_2.out.below hb_e2)
  have I_b_3 := Lib.hid (I_b_2.out.below hb_e2)
  have I_d_3 := Lib.hid (I_d_2.out.below hb_e2)
  have I_e1_3 := Lib.hid (I_e1_2.out.below hb_e2)
  clear U2 I_a_2 I_b_2 I_d_2 I_e1_2 hb_e2
  have I_e2_3 := J
  clear J
  have E1 := Lib.hid (decide_eq_true (p := L_e1 = L_e2) (right_unique N_e1.out.1 N_e2.out.1 fun n => by rw [mem0 N_e1.out, mem0 N_e2.out]; exact or_comm))
  go_wp2_with fail
  refine (refSame_at L_e1 L_e2 A_e1 A_e2 c_e1 c_e2 w3 I_e1_3.out I_e2_3.out).mono ?_
  rw [E1.out]
  rintro e w4 ⟨rfl, hbs1⟩
  clear E1
  have U4 := Lib.hid (und_call U3.out hbs1)
  have I_a_4 := Lib.hid (I_a_3.out.below hbs1)
  have I_b_4 := Lib.hid (I_b_3.out.below hbs1)
  have I_d_4 := Lib.hid (I_d_3.out.below hbs1)
  have I_e1_4 := Lib.hid (I_e1_3.out.below hbs1)
  have I_e2_4 := Lib.hid (I_e2_3.out.below hbs1)
  clear U3 I_a_3 I_b_3 I_d_3 I_e1_3 I_e2_3 hbs1
  clear I_e1_4
  clear I_e2_4
  go_wp2_with fail
  refine (rBoth_any a b A A' c c' w4 I_a_4.out I_b_4.out).mono ?_
  rintro e w5 ⟨A_b1, c_b1, L_b1, rfl, r_b1, n_b1, hb_b1⟩
  have b_b1 := canon_length n_b1
  have J := Lib.hid (mix_in (Or.inr (Or.inl rfl)) (by omega) (by omega) I_a_4.out.2.2 I_b_4.out.2.2 r_b1 n_b1)
  have N_b1 := Lib.hid n_b1
  clear r_b1 n_b1
  have U5 := Lib.hid (und_call U4.out hb_b1)
  have I_a_5 := Lib.hid (I_a_4.out.below hb_b1)
  have I_b_5 := Lib.hid (I_b_4.out.below hb_b1)
  have I_d_5 := Lib.hid (I_d_4.out.below hb_b1)
  clear U4 I_a_4 I_b_4 I_d_4 hb_b1
  have I_b1_5 := J
  clear J
  go_wp2_with fail
  refine (rBoth_any b a A' A c' c w5 I_b_5.out I_a_5.out).mono ?_
  rintro e w6 ⟨A_b2, c_b2, L_b2, rfl, r_b2, n_b2, hb_b2⟩
  have b_b2 := canon_length n_b2
  have J := Lib.hid (mix_in (Or.inr (Or.inl rfl)) (by omega) (by omega) I_b_5.out.2.2 I_a_5.out.2.2 r_b2 n_b2)
  have N_b2 := Lib.hid n_b2
  clear r_b2 n_b2
  have U6 := Lib.hid (und_call U5.out hb_b2)
  have I_a_6 := Lib.hid (I_a_5.out.below hb_b2)
  have I_b_6 := Lib.hid (I_b_5.out.below hb_b2)
  have I_d_6 := Lib.hid (I_d_5.out.below hb_b2)
  have I_b1_6 := Lib.hid (I_b1_5.out.below hb_b2)
  clear U5 I_a_5 I_b_5 I_d_5 I_b1_5 hb_b2
  have I_b2_6 := J
  clear J
  have E2 := Lib.hid (decide_eq_true (p := L_b1 = L_b2) (right_unique N_b1.out.1 N_b2.out.1 fun n => by rw [mem1 N_b1.out, mem1 N_b2.out]; exact and_comm))
  go_wp2_with fail
  refine (refSame_at L_b1 L_b2 A_b1 A_b2 c_b1 c_b2 w6 I_b1_6.out I_b2_6.out).mono ?_
  rw [E2.out]
  rintro e w7 ⟨rfl, hbs2⟩
  clear E2
  have U7 := Lib.hid (und_call U6.out hbs2)
  have I_a_7 := Lib.hid (I_a_6.out.below hbs2)
  have I_b_7 := Lib.hid (I_b_6.out.below hbs2)
  have I_d_7 := Lib.hid (I_d_6.out.below hbs2)
  have I_b1_7 := Lib.hid (I_b1_6.out.below hbs2)
  have I_b2_7 := Lib.hid (I_b2_6.out.below hbs2)
  clear U6 I_a_6 I_b_6 I_d_6 I_b1_6 I_b2_6 hbs2
  clear I_b1_7
  clear I_b2_7
  go_wp2_with fail
  refine (rEither_any a a A A c c w7 I_a_7.out I_a_7.out).mono ?_
  rintro e w8 ⟨A_f1, c_f1, L_f1, rfl, r_f1, n_f1, hb_f1⟩
  have b_f1 := canon_length n_f1
  have J := Lib.hid (mix_in (Or.inl rfl) (by omega) (by omega) I_a_7.out.2.2 I_a_7.out.2.2 r_f1 n_f1)
  have N_f1 := Lib.hid n_f1
  clear r_f1 n_f1
  have U8 := Lib.hid (und_call U7.out hb_f1)
  have I_a_8 := Lib.hid (I_a_7.out.below hb_f1)
  have I_b_8 := Lib.hid (I_b_7.out.below hb_f1)
  have I_d_8 := Lib.hid (I_d_7.out.below hb_f1)
  clear U7 I_a_7 I_b_7 I_d_7 hb_f1
  have I_f1_8 := J
  clear J
  go_wp2_with fail
  refine (rNormal_any a A c w8 I_a_8.out).mono ?_
  rintro e w9 ⟨A_f2, c_f2, L_f2, rfl, r_f2, n_f2, hb_f2⟩
  have b_f2 := canon_length n_f2
  simp only [List.length_nil] at b_f2
  have J := Lib.hid (mix_in (Or.inl rfl) (by omega) (by simp) I_a_8.out.2.2 fits_nil r_f2 n_f2)
  have N_f2 := Lib.hid n_f2
  clear r_f2 n_f2
  have U9 := Lib.hid (und_call U8.out hb_f2)
  have I_a_9 := Lib.hid (I_a_8.out.below hb_f2)
  have I_b_9 := Lib.hid (I_b_8.out.below hb_f2)
  have I_d_9 := Lib.hid (I_d_8.out.below hb_f2)
  have I_f1_9 := Lib.hid (I_f1_8.out.below hb_f2)
  clear U8 I_a_8 I_b_8 I_d_8 I_f1_8 hb_f2
  have I_f2_9 := J
  clear J
  have E3 := Lib.hid (decide_eq_true (p := L_f1 = L_f2) (right_unique N_f1.out.1 N_f2.out.1 fun n => by rw [mem0 N_f1.out, N_f2.out.2, wayP_nil]; exact or_self_iff))
  go_wp2_with fail
  refine (refSame_at L_f1 L_f2 A_f1 A_f2 c_f1 c_f2 w9 I_f1_9.out I_f2_9.out).mono ?_
  rw [E3.out]
  rintro e w10 ⟨rfl, hbs3⟩
  clear E3
  have U10 := Lib.hid (und_call U9.out hbs3)
  have I_a_10 := Lib.hid (I_a_9.out.below hbs3)
  have I_b_10 := Lib.hid (I_b_9.out.below hbs3)
  have I_d_10 := Lib.hid (I_d_9.out.below hbs3)
  have I_f1_10 := Lib.hid (I_f1_9.out.below hbs3)
  have I_f2_10 := Lib.hid (I_f2_9.out.below hbs3)
  clear U9 I_a_9 I_b_9 I_d_9 I_f1_9 I_f2_9 hbs3
  clear I_f1_10
  clear I_f2_10
  go_wp2_with fail
  refine (rEither_any a b A A' c c' w10 I_a_10.out I_b_10.out).mono ?_
  rintro e w11 ⟨A_g1, c_g1, L_g1, rfl, r_g1, n_g1, hb_g1⟩
  have b_g1 := canon_length n_g1
  have J := Lib.hid (mix_in (Or.inl rfl) (by omega) (by omega) I_a_10.out.2.2 I_b_10.out.2.2 r_g1 n_g1)
  have N_g1 := Lib.hid n_g1
  clear r_g1 n_g1
  have U11 := Lib.hid (und_call U10.out hb_g1)
  have I_a_11 := Lib.hid (I_a_10.out.below hb_g1)
  have I_b_11 := Lib.hid (I_b_10.out.below hb_g1)
  have I_d_11 := Lib.hid (I_d_10.out.below hb_g1)
  clear U10 I_a_10 I_b_10 I_d_10 hb_g1
  have I_g1_11 := J
  clear J
  go_wp2_with fail
  refine (rEither_any L_g1 d A_g1 A'' c_g1 c'' w11 I_g1_11.out I_d_11.out).mono ?_
  rintro e w12 ⟨A_g2, c_g2, L_g2, rfl, r_g2, n_g2, hb_g2⟩
  have b_g2 := canon_length n_g2
  have J := Lib.hid (mix_in (Or.inl rfl) (by omega) (by omega) I_g1_11.out.2.2 I_d_11.out.2.2 r_g2 n_g2)
  have N_g2 := Lib.hid n_g2
  clear r_g2 n_g2
  have U12 := Lib.hid (und_call U11.out hb_g2)
  have I_a_12 := Lib.hid (I_a_11.out.below hb_g2)
  have I_b_12 := Lib.hid (I_b_11.out.below hb_g2)
  have I_d_12 := Lib.hid (I_d_11.out.below hb_g2)
  have I_g1_12 := Lib.hid (I_g1_11.out.below hb_g2)
  clear U11 I_a_11 I_b_11 I_d_11 I_g1_11 hb_g2
  have I_g2_12 := J
  clear J
  go_wp2_with fail
  refine (rEither_any b d A' A'' c' c'' w12 I_b_12.out I_d_12.out).mono ?_
  rintro e w13 ⟨A_g3, c_g3, L_g3, rfl, r_g3, n_g3, hb_g3⟩
  have b_g3 := canon_length n_g3
  have J := Lib.hid (mix_in (Or.inl rfl) (by omega) (by omega) I_b_12.out.2.2 I_d_12.out.2.2 r_g3 n_g3)
  have N_g3 := Lib.hid n_g3
  clear r_g3 n_g3
  have U13 := Lib.hid (und_call U12.out hb_g3)
  have I_a_13 := Lib.hid (I_a_12.out.below hb_g3)
  have I_b_13 := Lib.hid (I_b_12.out.below hb_g3)
  have I_d_13 := Lib.hid (I_d_12.out.below hb_g3)
  have I_g1_13 := Lib.hid (I_g1_12.out.below hb_g3)
  have I_g2_13 := Lib.hid (I_g2_12.out.below hb_g3)
  clear U12 I_a_12 I_b_12 I_d_12 I_g1_12 I_g2_12 hb_g3
  have I_g3_13 := J
  clear J
  go_wp2_with fail
  refine (rEither_any a L_g3 A A_g3 c c_g3 w13 I_a_13.out I_g3_13.out).mono ?_
  rintro e w14 ⟨A_g4, c_g4, L_g4, rfl, r_g4, n_g4, hb_g4⟩
  have b_g4 := canon_length n_g4
  have J := Lib.hid (mix_in (Or.inl rfl) (by omega) (by omega) I_a_13.out.2.2 I_g3_13.out.2.2 r_g4 n_g4)
  have N_g4 := Lib.hid n_g4
  clear r_g4 n_g4
  have U14 := Lib.hid (und_call U13.out hb_g4)
  have I_a_14 := Lib.hid (I_a_13.out.below hb_g4)
  have I_b_14 := Lib.hid (I_b_13.out.below hb_g4)
  have I_d_14 := Lib.hid (I_d_13.out.below hb_g4)
  have I_g1_14 := Lib.hid (I_g1_13.out.below hb_g4)
  have I_g2_14 := Lib.hid (I_g2_13.out.below hb_g4)
  have I_g3_14 := Lib.hid (I_g3_13.out.below hb_g4)
  clear U13 I_a_13 I_b_13 I_d_13 I_g1_13 I_g2_13 I_g3_13 hb_g4
  have I_g4_14 := J
  clear J
  have E4 := Lib.hid (decide_eq_true (p := L_g2 = L_g4) (right_unique N_g2.out.1 N_g4.out.1 fun n => by rw [mem0 N_g2.out, mem0 N_g1.out, mem0 N_g4.out, mem0 N_g3.out]; exact or_assoc))
  go_wp2_with fail
  refine (refSame_at L_g2 L_g4 A_g2 A_g4 c_g2 c_g4 w14 I_g2_14.out I_g4_14.out).mono ?_
  rw [E4.out]
  rintro e w15 ⟨rfl, hbs4⟩
  clear E4
  have U15 := Lib.hid (und_call U14.out hbs4)
  have I_a_15 := Lib.hid (I_a_14.out.below hbs4)
  have I_b_15 := Lib.hid (I_b_14.out.below hbs4)
  have I_d_15 := Lib.hid (I_d_14.out.below hbs4)
  have I_g1_15 := Lib.hid (I_g1_14.out.below hbs4)
  have I_g2_15 := Lib.hid (I_g2_14.out.below hbs4)
  have I_g3_15 := Lib.hid (I_g3_14.out.below hbs4)
  have I_g4_15 := Lib.hid (I_g4_14.out.below hbs4)
  clear U14 I_a_14 I_b_14 I_d_14 I_g1_14 I_g2_14 I_g3_14 I_g4_14 hbs4
  clear I_g1_15
  clear I_g2_15
  clear I_g3_15
  clear I_g4_15
  go_wp2_with fail
  refine (rBoth_any a b A A' c c' w15 I_a_15.out I_b_15.out).mono ?_
  rintro e w16 ⟨A_h1, c_h1, L_h1, rfl, r_h1, n_h1, hb_h1⟩
  have b_h1 := canon_length n_h1
  have J := Lib.hid (mix_in (Or.inr (Or.inl rfl)) (by omega) (by omega) I_a_15.out.2.2 I_b_15.out.2.2 r_h1 n_h1)
  have N_h1 := Lib.hid n_h1
  clear r_h1 n_h1
  have U16 := Lib.hid (und_call U15.out hb_h1)
  have I_a_16 := Lib.hid (I_a_15.out.below hb_h1)
  have I_b_16 := Lib.hid (I_b_15.out.below hb_h1)
  have I_d_16 := Lib.hid (I_d_15.out.below hb_h1)
  clear U15 I_a_15 I_b_15 I_d_15 hb_h1
  have I_h1_16 := J
  clear J
  go_wp2_with fail
  refine (rBoth_any L_h1 d A_h1 A'' c_h1 c'' w16 I_h1_16.out I_d_16.out).mono ?_
  rintro e w17 ⟨A_h2, c_h2, L_h2, rfl, r_h2, n_h2, hb_h2⟩
  have b_h2 := canon_length n_h2
  have J := Lib.hid (mix_in (Or.inr (Or.inl rfl)) (by omega) (by omega) I_h1_16.out.2.2 I_d_16.out.2.2 r_h2 n_h2)
  have N_h2 := Lib.hid n_h2
  clear r_h2 n_h2
  have U17 := Lib.hid (und_call U16.out hb_h2)
  have I_a_17 := Lib.hid (I_a_16.out.below hb_h2)
  have I_b_17 := Lib.hid (I_b_16.out.below hb_h2)
  have I_d_17 := Lib.hid (I_d_16.out.below hb_h2)
  have I_h1_17 := Lib.hid (I_h1_16.out.below hb_h2)
  clear U16 I_a_16 I_b_16 I_d_16 I_h1_16 hb_h2
  have I_h2_17 := J
  clear J
  go_wp2_with fail
  refine (rBoth_any b d A' A'' c' c'' w17 I_b_17.out I_d_17.out).mono ?_
  rintro e w18 ⟨A_h3, c_h3, L_h3, rfl, r_h3, n_h3, hb_h3⟩
  have b_h3 := canon_length n_h3
  have J := Lib.hid (mix_in (Or.inr (Or.inl rfl)) (by omega) (by omega) I_b_17.out.2.2 I_d_17.out.2.2 r_h3 n_h3)
  have N_h3 := Lib.hid n_h3
  clear r_h3 n_h3
  have U18 := Lib.hid (und_call U17.out hb_h3)
  have I_a_18 := Lib.hid (I_a_17.out.below hb_h3)
  have I_b_18 := Lib.hid (I_b_17.out.below hb_h3)
  have I_d_18 := Lib.hid (I_d_17.out.below hb_h3)
  have I_h1_18 := Lib.hid (I_h1_17.out.below hb_h3)
  have I_h2_18 := Lib.hid (I_h2_17.out.below hb_h3)
  clear U17 I_a_17 I_b_17 I_d_17 I_h1_17 I_h2_17 hb_h3
  have I_h3_18 := J
  clear J
  go_wp2_with fail
  refine (rBoth_any a L_h3 A A_h3 c c_h3 w18 I_a_18.out I_h3_18.out).mono ?_
  rintro e w19 ⟨A_h4, c_h4, L_h4, rfl, r_h4, n_h4, hb_h4⟩
  have b_h4 := canon_length n_h4
  have J := Lib.hid (mix_in (Or.inr (Or.inl rfl)) (by omega) (by omega) I_a_18.out.2.2 I_h3_18.out.2.2 r_h4 n_h4)
  have N_h4 := Lib.hid n_h4
  clear r_h4 n_h4
  have U19 := Lib.hid (und_call U18.out hb_h4)
  have I_a_19 := Lib.hid (I_a_18.out.below hb_h4)
  have I_b_19 := Lib.hid (I_b_18.out.below hb_h4)
  have I_d_19 := Lib.hid (I_d_18.out.below hb_h4)
  have I_h1_19 := Lib.hid (I_h1_18.out.below hb_h4)
  have I_h2_19 := Lib.hid (I_h2_18.out.below hb_h4)
  have I_h3_19 := Lib.hid (I_h3_18.out.below hb_h4)
  clear U18 I_a_18 I_b_18 I_d_18 I_h1_18 I_h2_18 I_h3_18 hb_h4
  have I_h4_19 := J
  clear J
  have E5 := Lib.hid (decide_eq_true (p := L_h2 = L_h4) (right_unique N_h2.out.1 N_h4.out.1 fun n => by rw [mem1 N_h2.out, mem1 N_h1.out, mem1 N_h4.out, mem1 N_h3.out]; exact and_assoc))
  go_wp2_with fail
  refine (refSame_at L_h2 L_h4 A_h2 A_h4 c_h2 c_h4 w19 I_h2_19.out I_h4_19.out).mono ?_
  rw [E5.out]
  rintro e w20 ⟨rfl, hbs5⟩
  clear E5
  have U20 := Lib.hid (und_call U19.out hbs5)
  have I_a_20 := Lib.hid (I_a_19.out.below hbs5)
  have I_b_20 := Lib.hid (I_b_19.out.below hbs5)
  have I_d_20 := Lib.hid (I_d_19.out.below hbs5)
  have I_h1_20 := Lib.hid (I_h1_19.out.below hbs5)
  have I_h2_20 := Lib.hid (I_h2_19.out.below hbs5)
  have I_h3_20 := Lib.hid (I_h3_19.out.below hbs5)
  have I_h4_20 := Lib.hid (I_h4_19.out.below hbs5)
  clear U19 I_a_19 I_b_19 I_d_19 I_h1_19 I_h2_19 I_h3_19 I_h4_19 hbs5
  clear I_h1_20
  clear I_h2_20
  clear I_h3_20
  clear I_h4_20
  go_wp2_with fail
  refine (rLess_any a b A A' c c' w20 I_a_20.out I_b_20.out).mono ?_
  rintro e w21 ⟨A_i1, c_i1, L_i1, rfl, r_i1, n_i1, hb_i1⟩
  have b_i1 := canon_length n_i1
  have J := Lib.hid (mix_in (Or.inr (Or.inr rfl)) (by omega) (by omega) I_a_20.out.2.2 I_b_20.out.2.2 r_i1 n_i1)
  have N_i1 := Lib.hid n_i1
  clear r_i1 n_i1
  have U21 := Lib.hid (und_call U20.out hb_i1)
  have I_a_21 := Lib.hid (I_a_20.out.below hb_i1)
  have I_b_21 := Lib.hid (I_b_20.out.below hb_i1)
  have I_d_21 := Lib.hid (I_d_20.out.below hb_i1)
  clear U20 I_a_20 I_b_20 I_d_20 hb_i1
  have I_i1_21 := J
  clear J
  go_wp2_with fail
  refine (rLess_any L_i1 d A_i1 A'' c_i1 c'' w21 I_i1_21.out I_d_21.out).mono ?_
  rintro e w22 ⟨A_i2, c_i2, L_i2, rfl, r_i2, n_i2, hb_i2⟩
  have b_i2 := canon_length n_i2
  have J := Lib.hid (mix_in (Or.inr (Or.inr rfl)) (by omega) (by omega) I_i1_21.out.2.2 I_d_21.out.2.2 r_i2 n_i2)
  have N_i2 := Lib.hid n_i2
  clear r_i2 n_i2
  have U22 := Lib.hid (und_call U21.out hb_i2)
  have I_a_22 := Lib.hid (I_a_21.out.below hb_i2)
  have I_b_22 := Lib.hid (I_b_21.out.below hb_i2)
  have I_d_22 := Lib.hid (I_d_21.out.below hb_i2)
  have I_i1_22 := Lib.hid (I_i1_21.out.below hb_i2)
  clear U21 I_a_21 I_b_21 I_d_21 I_i1_21 hb_i2
  have I_i2_22 := J
  clear J
  go_wp2_with fail
  refine (rEither_any b d A' A'' c' c'' w22 I_b_22.out I_d_22.out).mono ?_
  rintro e w23 ⟨A_i3, c_i3, L_i3, rfl, r_i3, n_i3, hb_i3⟩
  have b_i3 := canon_length n_i3
  have J := Lib.hid (mix_in (Or.inl rfl) (by omega) (by omega) I_b_22.out.2.2 I_d_22.out.2.2 r_i3 n_i3)
  have N_i3 := Lib.hid n_i3
  clear r_i3 n_i3
  have U23 := Lib.hid (und_call U22.out hb_i3)
  have I_a_23 := Lib.hid (I_a_22.out.below hb_i3)
  have I_b_23 := Lib.hid (I_b_22.out.below hb_i3)
  have I_d_23 := Lib.hid (I_d_22.out.below hb_i3)
  have I_i1_23 := Lib.hid (I_i1_22.out.below hb_i3)
  have I_i2_23 := Lib.hid (I_i2_22.out.below hb_i3)
  clear U22 I_a_22 I_b_22 I_d_22 I_i1_22 I_i2_22 hb_i3
  have I_i3_23 := J
  clear J
  go_wp2_with fail
  refine (rLess_any a L_i3 A A_i3 c c_i3 w23 I_a_23.out I_i3_23.out).mono ?_
  rintro e w24 ⟨A_i4, c_i4, L_i4, rfl, r_i4, n_i4, hb_i4⟩
  have b_i4 := canon_length n_i4
  have J := Lib.hid (mix_in (Or.inr (Or.inr rfl)) (by omega) (by omega) I_a_23.out.2.2 I_i3_23.out.2.2 r_i4 n_i4)
  have N_i4 := Lib.hid n_i4
  clear r_i4 n_i4
  have U24 := Lib.hid (und_call U23.out hb_i4)
  have I_a_24 := Lib.hid (I_a_23.out.below hb_i4)
  have I_b_24 := Lib.hid (I_b_23.out.below hb_i4)
  have I_d_24 := Lib.hid (I_d_23.out.below hb_i4)
  have I_i1_24 := Lib.hid (I_i1_23.out.below hb_i4)
  have I_i2_24 := Lib.hid (I_i2_23.out.below hb_i4)
  have I_i3_24 := Lib.hid (I_i3_23.out.below hb_i4)
  clear U23 I_a_23 I_b_23 I_d_23 I_i1_23 I_i2_23 I_i3_23 hb_i4
  have I_i4_24 := J
  clear J
  have E6 := Lib.hid (decide_eq_true (p := L_i2 = L_i4) (right_unique N_i2.out.1 N_i4.out.1 fun n => by rw [mem2 N_i2.out, mem2 N_i1.out, mem2 N_i4.out, mem0 N_i3.out, not_or]; exact and_assoc))
  go_wp2_with fail
  refine (refSame_at L_i2 L_i4 A_i2 A_i4 c_i2 c_i4 w24 I_i2_24.out I_i4_24.out).mono ?_
  rw [E6.out]
  rintro e w25 ⟨rfl, hbs6⟩
  clear E6
  have U25 := Lib.hid (und_call U24.out hbs6)
  have I_a_25 := Lib.hid (I_a_24.out.below hbs6)
  have I_b_25 := Lib.hid (I_b_24.out.below hbs6)
  have I_d_25 := Lib.hid (I_d_24.out.below hbs6)
  have I_i1_25 := Lib.hid (I_i1_24.out.below hbs6)
  have I_i2_25 := Lib.hid (I_i2_24.out.below hbs6)
  have I_i3_25 := Lib.hid (I_i3_24.out.below hbs6)
  have I_i4_25 := Lib.hid (I_i4_24.out.below hbs6)
  clear U24 I_a_24 I_b_24 I_d_24 I_i1_24 I_i2_24 I_i3_24 I_i4_24 hbs6
  clear I_i1_25
  clear I_i2_25
  clear I_i3_25
  clear I_i4_25
  go_wp2_with fail
  refine (rEither_any b d A' A'' c' c'' w25 I_b_25.out I_d_25.out).mono ?_
  rintro e w26 ⟨A_j1, c_j1, L_j1, rfl, r_j1, n_j1, hb_j1⟩
  have b_j1 := canon_length n_j1
  have J := Lib.hid (mix_in (Or.inl rfl) (by omega) (by omega) I_b_25.out.2.2 I_d_25.out.2.2 r_j1 n_j1)
  have N_j1 := Lib.hid n_j1
  clear r_j1 n_j1
  have U26 := Lib.hid (und_call U25.out hb_j1)
  have I_a_26 := Lib.hid (I_a_25.out.below hb_j1)
  have I_b_26 := Lib.hid (I_b_25.out.below hb_j1)
  have I_d_26 := Lib.hid (I_d_25.out.below hb_j1)
  clear U25 I_a_25 I_b_25 I_d_25 hb_j1
  have I_j1_26 := J
  clear J
  go_wp2_with fail
  refine (rBoth_any a L_j1 A A_j1 c c_j1 w26 I_a_26.out I_j1_26.out).mono ?_
  rintro e w27 ⟨A_j2, c_j2, L_j2, rfl, r_j2, n_j2, hb_j2⟩
  have b_j2 := canon_length n_j2
  have J := Lib.hid (mix_in (Or.inr (Or.inl rfl)) (by omega) (by omega) I_a_26.out.2.2 I_j1_26.out.2.2 r_j2 n_j2)
  have N_j2 := Lib.hid n_j2
  clear r_j2 n_j2
  have U27 := Lib.hid (und_call U26.out hb_j2)
  have I_a_27 := Lib.hid (I_a_26.out.below hb_j2)
  have I_b_27 := Lib.hid (I_b_26.out.below hb_j2)
  have I_d_27 := Lib.hid (I_d_26.out.below hb_j2)
  have I_j1_27 := Lib.hid (I_j1_26.out.below hb_j2)
  clear U26 I_a_26 I_b_26 I_d_26 I_j1_26 hb_j2
  have I_j2_27 := J
  clear J
  go_wp2_with fail
  refine (rBoth_any a b A A' c c' w27 I_a_27.out I_b_27.out).mono ?_
  rintro e w28 ⟨A_j3, c_j3, L_j3, rfl, r_j3, n_j3, hb_j3⟩
  have b_j3 := canon_length n_j3
  have J := Lib.hid (mix_in (Or.inr (Or.inl rfl)) (by omega) (by omega) I_a_27.out.2.2 I_b_27.out.2.2 r_j3 n_j3)
  have N_j3 := Lib.hid n_j3
  clear r_j3 n_j3
  have U28 := Lib.hid (und_call U27.out hb_j3)
  have I_a_28 := Lib.hid (I_a_27.out.below hb_j3)
  have I_b_28 := Lib.hid (I_b_27.out.below hb_j3)
  have I_d_28 := Lib.hid (I_d_27.out.below hb_j3)
  have I_j1_28 := Lib.hid (I_j1_27.out.below hb_j3)
  have I_j2_28 := Lib.hid (I_j2_27.out.below hb_j3)
  clear U27 I_a_27 I_b_27 I_d_27 I_j1_27 I_j2_27 hb_j3
  have I_j3_28 := J
  clear J
  go_wp2_with fail
  refine (rBoth_any a d A A'' c c'' w28 I_a_28.out I_d_28.out).mono ?_
  rintro e w29 ⟨A_j4, c_j4, L_j4, rfl, r_j4, n_j4, hb_j4⟩
  have b_j4 := canon_length n_j4
  have J := Lib.hid (mix_in (Or.inr (Or.inl rfl)) (by omega) (by omega) I_a_28.out.2.2 I_d_28.out.2.2 r_j4 n_j4)
  have N_j4 := Lib.hid n_j4
  clear r_j4 n_j4
  have U29 := Lib.hid (und_call U28.out hb_j4)
  have I_a_29 := Lib.hid (I_a_28.out.below hb_j4)
  have I_b_29 := Lib.hid (I_b_28.out.below hb_j4)
  have I_d_29 := Lib.hid (I_d_28.out.below hb_j4)
  have I_j1_29 := Lib.hid (I_j1_28.out.below hb_j4)
  have I_j2_29 := Lib.hid (I_j2_28.out.below hb_j4)
  have I_j3_29 := Lib.hid (I_j3_28.out.below hb_j4)
  clear U28 I_a_28 I_b_28 I_d_28 I_j1_28 I_j2_28 I_j3_28 hb_j4
  have I_j4_29 := J
  clear J
  go_wp2_with fail
  refine (rEither_any L_j3 L_j4 A_j3 A_j4 c_j3 c_j4 w29 I_j3_29.out I_j4_29.out).mono ?_
  rintro e w30 ⟨A_j5, c_j5, L_j5, rfl, r_j5, n_j5, hb_j5⟩
  have b_j5 := canon_length n_j5
  have J := Lib.hid (mix_in (Or.inl rfl) (by omega) (by omega) I_j3_29.out.2.2 I_j4_29.out.2.2 r_j5 n_j5)
  have N_j5 := Lib.hid n_j5
  clear r_j5 n_j5
  have U30 := Lib.hid (und_call U29.out hb_j5)
  have I_a_30 := Lib.hid (I_a_29.out.below hb_j5)
  have I_b_30 := Lib.hid (I_b_29.out.below hb_j5)
  have I_d_30 := Lib.hid (I_d_29.out.below hb_j5)
  have I_j1_30 := Lib.hid (I_j1_29.out.below hb_j5)
  have I_j2_30 := Lib.hid (I_j2_29.out.below hb_j5)
  have I_j3_30 := Lib.hid (I_j3_29.out.below hb_j5)
  have I_j4_30 := Lib.hid (I_j4_29.out.below hb_j5)
  clear U29 I_a_29 I_b_29 I_d_29 I_j1_29 I_j2_29 I_j3_29 I_j4_29 hb_j5
  have I_j5_30 := J
  clear J
  have E7 := Lib.hid (decide_eq_true (p := L_j2 = L_j5) (right_unique N_j2.out.1 N_j5.out.1 fun n => by rw [mem1 N_j2.out, mem0 N_j1.out, mem0 N_j5.out, mem1 N_j3.out, mem1 N_j4.out]; exact and_or_left))
  go_wp2_with fail
  refine (refSame_at L_j2 L_j5 A_j2 A_j5 c_j2 c_j5 w30 I_j2_30.out I_j5_30.out).mono ?_
  rw [E7.out]
  rintro e w31 ⟨rfl, hbs7⟩
  clear E7
  have U31 := Lib.hid (und_call U30.out hbs7)
  have I_a_31 := Lib.hid (I_a_30.out.below hbs7)
  have I_b_31 := Lib.hid (I_b_30.out.below hbs7)
  have I_d_31 := Lib.hid (I_d_30.out.below hbs7)
  have I_j1_31 := Lib.hid (I_j1_30.out.below hbs7)
  have I_j2_31 := Lib.hid (I_j2_30.out.below hbs7)
  have I_j3_31 := Lib.hid (I_j3_30.out.below hbs7)
  have I_j4_31 := Lib.hid (I_j4_30.out.below hbs7)
  have I_j5_31 := Lib.hid (I_j5_30.out.below hbs7)
  clear U30 I_a_30 I_b_30 I_d_30 I_j1_30 I_j2_30 I_j3_30 I_j4_30 I_j5_30 hbs7
  go_wp2
  go_ret
  exact ⟨rfl, U31.out⟩

theorem walk (A : Option Addr) (a : List Rg) (c : Nat) (A' : Option Addr) (b : List Rg) (c' : Nat) (A'' : Option Addr) (d : List Rg) (c'' : Nat) (w : World) (_hlc : a.length ≤ c) (_hcm : c ≤ maxLen) (hr : Reads w w.heap.size 2 A a.length (rgv a)) (hf : Fits64 a)
    (_hlc' : b.length ≤ c') (_hcm' : c' ≤ maxLen) (hr' : Reads w w.heap.size 2 A' b.length (rgv b)) (hf' : Fits64 b) (_hlc'' : d.length ≤ c'') (_hcm'' : c'' ≤ maxLen) (hr'' : Reads w w.heap.size 2 A'' d.length (rgv d)) (hf'' : Fits64 d) :
    Calls Try.prog 7 #[.slice A a.length c, .slice A' b.length c', .slice A'' d.length c''] w fun e w' => e = .returned (.bool true) ∧ Below w.heap.size w w' := by
  rcases h : (decide (60 < a.length) || decide (60 < b.length)) with _ | _
  · have h2 : a.length ≤ 60 ∧ b.length ≤ 60 := by simp at h; omega
    by_cases h3 : 60 < d.length
    · exact walk_third A a c A' b c' A'' d c'' w h (by omega)
    · exact walk_short A a c A' b c' A'' d c'' w ⟨hr, by omega, hf⟩ ⟨hr', by omega, hf'⟩ ⟨hr'', by omega, hf''⟩ h2.1 h2.2 (by omega) h
  · exact walk_long A a c A' b c' A'' d c'' w h

set_option maxRecDepth 100000 in
theorem lifted (os : Os) (started : os.Started) (H : Type) (enc : TypeId × Value → H) :
    ReturnsInHanded {} Try.checked os 7 .any (Rows.rangesTurnedSpec.pre6 enc Try.prog Try.f7 Rows.rangesTurnedRow.domain false) (Rows.rangesTurnedSpec.post enc Try.prog Try.f7 false true false false) := by
  refine returnsInHanded_of_change_sized (C := Try.checked) own started (by kernel_rfl) Try.func7
    (ChangeSpec.witness6 (enc := enc) (C := Try.checked) false ⟨#[], #[.slice none 0 0, .slice none 0 0, .slice none 0 0], []⟩ 8 (by kernel_rfl) (by kernel_rfl) (by kernel_rfl) (by kernel_rfl)) ?_
  intro W base args ds gs before hval0 hW hcnd hsz0 _
  have hsz : (DataW.weightsEach Try.prog (Try.f7.params.toList ++ Rows.rangesTurnedSpec.plain.varTypes Try.prog) (ds ++ gs)).all (· ≤ reachBytes) = true := hsz0
  have hval : ∀ (j : Nat) t v, Try.f7.params[j]? = some t → args[j]? = some v → Value.okWide Try.prog W .any base t v := hval0
  have hW' := hW
  obtain ⟨p, q, hA0, hV, rfl, hfz, hnd⟩ := hW
  have hA : DataW.TrodAll enc Try.prog W 0 (fun _ => true) true Try.f7.params.toList args.toList ds p := hA0
  rw [Try.params7] at hA hval hsz
  obtain ⟨v0, vs0, d0, ds0, p0, q0, hargs, rfl, rfl, h0, r0⟩ := trodAll_cons hA
  obtain ⟨v1, vs1, d1, ds1, p1, q1, rfl, rfl, rfl, h1, r1⟩ := trodAll_cons r0
  obtain ⟨v2, vs2, d2, ds2, p2, q2, rfl, rfl, rfl, h2, r2⟩ := trodAll_cons r1
  obtain ⟨rfl, rfl, rfl⟩ := trodAll_nil r2
  obtain rfl : args = #[v0, v1, v2] := by cases args; simp_all
  obtain ⟨rfl, rfl⟩ := trodVars_none hV
  have k0 := h0
  have lt0 : ∀ x ∈ p0, x.block < W.heap.size := by obtain ⟨m, hm⟩ := k0; exact DataW.trod_lt m _ _ _ hm
  obtain ⟨A0, l0, c0, rfl, hlc0, hcm0, hr0, hf0⟩ := open_ranges Try.underlying22 Try.underlying30 (by kernel_rfl) (by kernel_rfl) Try.underlying3 Try.underlying3 (hval 0 22 v0 rfl rfl) h0
  have k1 := h1
  have lt1 : ∀ x ∈ p1, x.block < W.heap.size := by obtain ⟨m, hm⟩ := k1; exact DataW.trod_lt m _ _ _ hm
  obtain ⟨A1, l1, c1, rfl, hlc1, hcm1, hr1, hf1⟩ := open_ranges Try.underlying22 Try.underlying30 (by kernel_rfl) (by kernel_rfl) Try.underlying3 Try.underlying3 (hval 1 22 v1 rfl rfl) h1
  have k2 := h2
  have lt2 : ∀ x ∈ p2, x.block < W.heap.size := by obtain ⟨m, hm⟩ := k2; exact DataW.trod_lt m _ _ _ hm
  obtain ⟨A2, l2, c2, rfl, hlc2, hcm2, hr2, hf2⟩ := open_ranges Try.underlying22 Try.underlying30 (by kernel_rfl) (by kernel_rfl) Try.underlying3 Try.underlying3 (hval 2 22 v2 rfl rfl) h2
  clear hA0 hval0 hsz0
  refine (walk A0 l0 c0 A1 l1 c1 A2 l2 c2 W hlc0 hcm0 hr0 hf0 hlc1 hcm1 hr1 hf1 hlc2 hcm2 hr2 hf2).mono fun e W' ⟨he, bel⟩ => ?_
  subst he
  exact ⟨_, rfl, _, _, _, [], _, [], hW', trodAll_mk1 (shut_bool Try.underlying4 _), (trodAll_cons_mk (Below.trod laidOut (by kernel_rfl) (of_decide_eq_true (by kernel_rfl)) k0 bel lt0) (trodAll_cons_mk (Below.trod laidOut (by kernel_rfl) (of_decide_eq_true (by kernel_rfl)) k1 bel lt1) (trodAll_cons_mk (Below.trod laidOut (by kernel_rfl) (of_decide_eq_true (by kernel_rfl)) k2 bel lt2) trodAll_mk0))), rfl, bel.frame _, fun h => by cases h⟩

theorem over : Rows.rangesTurnedRow.holds Try.pinned (OpenSpec.ofChange Rows.rangesTurnedSpec) :=
  OpenClaim.holds_of_wide 7 Try.f7 rfl rfl rfl rfl rfl rfl rfl ⟨rfl, rfl, rfl, rfl, rfl⟩ rfl rfl rfl rfl rfl (by kernel_rfl) Try.func7 (by kernel_rfl)
    (of_decide_eq_true (by kernel_rfl)) (by unfold Func.isWrapper; first | (rw [if_pos (by decide +kernel)]; kernel_rfl) | (rw [if_neg (by decide +kernel)]; exact ⟨rfl, rfl⟩))
    (fun os started H enc _ => lifted os started H enc)

/-- The statement. -/
theorem proved : Rows.RangesTurnedSaid := over
#print axioms proved
end Go.Proofs.Ytfdmbgaincmefaa.rangesTurned
