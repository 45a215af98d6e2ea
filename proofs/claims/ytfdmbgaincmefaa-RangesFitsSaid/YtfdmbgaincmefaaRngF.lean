/- Contracts of package ranges: Normal, Either, Both, Less, Total, Fit (Right and Has: RngO). Conditions: what is handed in is in memory as named, is short, and its numbers fit. -/
import Derived.Test.YtfdmbgaincmefaaRngK
import Derived.Test.YtfdmbgaincmefaaRngO
import Derived.Test.YtfdmbgaincmefaaRngQ
namespace Go.Proofs.Ytfdmbgaincmefaa
open Go.RowKit

/-- What Normal answers. -/
def NormAt (w : World) (a : List Rg) (e : Ending) (w' : World) : Prop :=
  ∃ A c L, e = .returned (.slice A L.length c) ∧ Reads w' w'.heap.size 2 A L.length (rgv L) ∧ rightR L ∧ (∀ n, memR L n ↔ memR a n) ∧ L.length ≤ a.length ∧ Below w.heap.size w w'
theorem own_after {w w' : World} {base : Nat} {e : TypeId} {size n : Nat} {v : Value} {xs : List Value} (h : w.ownsRow base e size v n xs) (hb : Below w.heap.size w w') : w'.ownsRow base e size v n xs :=
  h.kept (only_of_below hb none) (by rcases v.ownBlock with _ | k <;> simp)

theorem norm_any (a : List Rg) (A : Option Addr) (c : Nat) (w : World) (h : RgIn w A a) :
    Calls Try.prog 20 #[.slice A a.length c] w fun e w' => NormAt w a e w' := by
  have HC := Lib.hid (counting_any a A c w h)
  have hl := Nat.le_trans (cutL_len a) h.2.1
  have HP := Lib.hid (cutL_pos a)
  clear h
  go_enter Try.func20, Try.ntmps20
  go_wp2_with fail
  refine HC.out.mono ?_
  rintro e w1 ⟨v, rfl, ho, hb⟩
  have HO := Lib.hid ho
  have HB := Lib.hid hb
  clear ho hb
  go_wp2_with fail
  refine (joined_any (cutL a) v w.heap.size w1 HB.out.size (by omega) HP.out HO.out).mono ?_
  rintro e w2 ⟨v2, R, rfl, ho2, hr, hm, hl2, hb2⟩
  have HE := Lib.hid ho2
  have HR := Lib.hid (And.intro hr hm)
  have HB2 := Lib.hid (HB.out.trans hb2)
  clear ho2 hr hm hb2
  go_wp2
  go_ret
  obtain ⟨A2, c2, rfl, _, _, hr2, _⟩ := own_formN HE.out (by omega)
  exact ⟨A2, c2, R, rfl, hr2, HR.out.1, fun n => (HR.out.2 n).trans (cutL_mem a n), Nat.le_trans hl2 (cutL_len a), HB2.out⟩
theorem rNormal_any (a : List Rg) (A : Option Addr) (c : Nat) (w : World) (h : RgIn w A a) :
    Calls Try.prog 20 #[.slice A a.length c] w fun e w' => MixAt w (wayP a [] 0) e w' :=
  (norm_any a A c w h).mono fun _ _ ⟨A1, c1, L, he, hr, hR, hm, _, hb⟩ => ⟨A1, c1, L, he, hr, ⟨hR, fun n => (hm n).trans (wayP_nil a n).symm⟩, hb⟩

set_option maxHeartbeats 800000 in
theorem rEither_any (a b : List Rg) (A A' : Option Addr) (c c' : Nat) (w : World) (h : RgIn w A a) (h' : RgIn w A' b) :
    Calls Try.prog 15 #[.slice A a.length c, .slice A' b.length c'] w fun e w' => MixAt w (wayP a b 0) e w' := by
  obtain ⟨i0, hi0, hz0, hz1, hz2⟩ := info_parts rginfo
  have HC := Lib.hid (counting_any a A c w h)
  have HI := Lib.hid h'
  have hla := Nat.le_trans (cutL_len a) h.2.1
  have hlb := Nat.le_trans (cutL_len b) h'.2.1
  clear h h'
  go_enter Try.func15, Try.ntmps15
  go_wp2_with fail
  refine HC.out.mono ?_
  rintro e w1 ⟨v, rfl, ho, hb⟩
  have HO := Lib.hid ho
  have HB := Lib.hid hb
  have HI1 := Lib.hid (HI.out.below hb)
  clear ho hb HC HI
  go_wp2_with fail
  refine (counting_any b A' c' w1 HI1.out).mono ?_
  rintro e w2 ⟨v2, rfl, ho2, hb2⟩
  obtain ⟨A2, c2, rfl, _, _, hr2, _⟩ := own_formN ho2 (by omega)
  have HO2 := Lib.hid (own_after HO.out hb2)
  have HR2 := Lib.hid hr2
  have HB2 := Lib.hid (HB.out.trans (hb2.mono HB.out.size))
  clear ho2 hb2 hr2 HO HB HI1
  go_wp2_with (at_builtin; refine wpList_append_any _ rfl (.tmp 6) (.tmp 8) 22 rfl w.heap.size 30 i0 (.agg #[.int .i64 0, .int .i64 0]) 2 16 Try.underlying22 hi0 hz0 hz1 hz2 rfl (by decide) v (cutL a).length _ rfl HO2.out _ A2 (cutL b).length c2 _ rfl HR2.out (rgv_one _) (by unfold maxLen; omega) (by omega) HB2.out.size ?_; intro v3 w3 ho3 hg3 _)
  have hl3 : (cutL a ++ cutL b).length = (cutL a).length + (cutL b).length := List.length_append
  rw [← rgv_append, ← hl3] at ho3
  have HO3 := Lib.hid ho3
  have HB3 := Lib.hid (HB2.out.grown hg3 HB2.out.size (own_ge HO2.out))
  clear ho3 hg3
  refine (joined_any (cutL a ++ cutL b) v3 w.heap.size w3 HB3.out.size (by omega) (fun r hr => ((List.mem_append.1 hr).elim (cutL_pos a r) (cutL_pos b r))) HO3.out).mono ?_
  rintro e w4 ⟨v4, R, rfl, ho4, hr, hm, hl4, hb4⟩
  have HE := Lib.hid ho4
  have HR := Lib.hid (And.intro hr hm)
  have HB4 := Lib.hid (HB3.out.trans hb4)
  clear ho4 hr hm hb4
  go_wp2
  go_ret
  obtain ⟨A4, c4, rfl, _, _, hr4, _⟩ := own_formN HE.out (by omega)
  exact ⟨A4, c4, R, rfl, hr4, ⟨HR.out.1, fun n => by rw [HR.out.2, memR_append, cutL_mem, cutL_mem, way0]⟩, HB4.out⟩

theorem fits_short {a : List Rg} (h : a.length ≤ 1000000) {L : List Rg} (hl : L.length ≤ a.length) : L.length ≤ 1000000 := by omega
set_option maxHeartbeats 800000 in
theorem both_less (a b : List Rg) (A A' : Option Addr) (c c' : Nat) (w : World) (h : RgIn w A a) (h' : RgIn w A' b) :
    (Calls Try.prog 17 #[.slice A a.length c, .slice A' b.length c'] w fun e w' => MixAt w (wayP a b 1) e w') ∧
    (Calls Try.prog 18 #[.slice A a.length c, .slice A' b.length c'] w fun e w' => MixAt w (wayP a b 2) e w') := by
  have HC := Lib.hid (norm_any a A c w h)
  have HI := Lib.hid h'
  have hla := h.2.1
  have hlb := h'.2.1
  clear h h'
  refine ⟨?_, ?_⟩
  · go_enter Try.func17, Try.ntmps17
    go_wp2_with fail
    refine HC.out.mono ?_
    rintro e w1 ⟨A1, c1, La, rfl, r1, ra, ma, l1, hb1⟩
    have HR1 := Lib.hid r1
    have HA := Lib.hid (And.intro ra ma)
    have HB1 := Lib.hid hb1
    have HI1 := Lib.hid (HI.out.below hb1)
    clear r1 ra ma hb1 HC HI
    go_wp2_with fail
    refine (norm_any b A' c' w1 HI1.out).mono ?_
    rintro e w2 ⟨A2, c2, Lb, rfl, r2, rb, mb, l2, hb2⟩
    have HR2 := Lib.hid r2
    have HR1' := Lib.hid ((HR1.out.below hb2).here2)
    have HBb := Lib.hid (And.intro rb mb)
    have HB2 := Lib.hid (HB1.out.trans (hb2.mono HB1.out.size))
    clear r2 rb mb hb2 HR1 HB1 HI1
    go_wp2_with fail
    refine (parted_any La Lb A1 A2 c1 c2 w2 (by omega) (by omega) HA.out.1 HBb.out.1 HR1'.out HR2.out).mono ?_
    rintro e w3 ⟨u, v, L, M, rfl, hr, hc1, hc2⟩
    have HR := Lib.hid hr
    clear hr
    go_wp2
    go_ret
    obtain ⟨A4, c4, rfl, _, _, hr4, _⟩ := own_formN HR.out.ou (by omega)
    exact ⟨A4, c4, L, rfl, hr4, ⟨hc1.1, fun n => (hc1.2 n).trans (by show memR La n ∧ memR Lb n ↔ _; rw [HA.out.2, HBb.out.2, way1])⟩, HB2.out.trans (HR.out.be.mono HB2.out.size)⟩
  · go_enter Try.func18, Try.ntmps18
    go_wp2_with fail
    refine HC.out.mono ?_
    rintro e w1 ⟨A1, c1, La, rfl, r1, ra, ma, l1, hb1⟩
    have HR1 := Lib.hid r1
    have HA := Lib.hid (And.intro ra ma)
    have HB1 := Lib.hid hb1
    have HI1 := Lib.hid (HI.out.below hb1)
    clear r1 ra ma hb1 HC HI
    go_wp2_with fail
    refine (norm_any b A' c' w1 HI1.out).mono ?_
    rintro e w2 ⟨A2, c2, Lb, rfl, r2, rb, mb, l2, hb2⟩
    have HR2 := Lib.hid r2
    have HR1' := Lib.hid ((HR1.out.below hb2).here2)
    have HBb := Lib.hid (And.intro rb mb)
    have HB2 := Lib.hid (HB1.out.trans (hb2.mono HB1.out.size))
    clear r2 rb mb hb2 HR1 HB1 HI1
    go_wp2_with fail
    refine (parted_any La Lb A1 A2 c1 c2 w2 (by omega) (by omega) HA.out.1 HBb.out.1 HR1'.out HR2.out).mono ?_
    rintro e w3 ⟨u, v, L, M, rfl, hr, hc1, hc2⟩
    have HR := Lib.hid hr
    clear hr
    go_wp2
    go_ret
    obtain ⟨A4, c4, rfl, _, _, hr4, _⟩ := own_formN HR.out.ov (by omega)
    exact ⟨A4, c4, M, rfl, hr4, ⟨hc2.1, fun n => (hc2.2 n).trans (by show memR La n ∧ ¬ memR Lb n ↔ _; rw [HA.out.2, HBb.out.2, way2])⟩, HB2.out.trans (HR.out.be.mono HB2.out.size)⟩
theorem rBoth_any (a b : List Rg) (A A' : Option Addr) (c c' : Nat) (w : World) (h : RgIn w A a) (h' : RgIn w A' b) :
    Calls Try.prog 17 #[.slice A a.length c, .slice A' b.length c'] w fun e w' => MixAt w (wayP a b 1) e w' := (both_less a b A A' c c' w h h').1
theorem rLess_any (a b : List Rg) (A A' : Option Addr) (c c' : Nat) (w : World) (h : RgIn w A a) (h' : RgIn w A' b) :
    Calls Try.prog 18 #[.slice A a.length c, .slice A' b.length c'] w fun e w' => MixAt w (wayP a b 2) e w' := (both_less a b A A' c c' w h h').2

set_option maxHeartbeats 800000 in
theorem rTotal_any (a : List Rg) (A : Option Addr) (c : Nat) (w : World) (h : RgIn w A a) :
    Calls Try.prog 24 #[.slice A a.length c] w fun e w' => e = .returned (.int .i64 (totN a : Int)) ∧ Below w.heap.size w w' := by
  have HC := Lib.hid (norm_any a A c w h)
  have HF := Lib.hid h.2.2
  have hla := h.2.1
  clear h
  go_enter Try.func24, Try.ntmps24
  go_wp2_with fail
  refine HC.out.mono ?_
  rintro e w1 ⟨A1, c1, L, rfl, r1, ra, ma, l1, hb1⟩
  have HT := Lib.hid (totN_canon ⟨ra, ma⟩ HF.out)
  have HLe := Lib.hid (totN_le a)
  have HP := Lib.hid (right_pos ra)
  have HFL := Lib.hid (canon_fits (p := memR a) ⟨ra, ma⟩ (fun n hn => mem_lt HF.out hn))
  have HBd := Lib.hid (totR_bounds ra)
  have HR := Lib.hid r1
  have HB := Lib.hid hb1
  have hbs := hb1.size
  clear r1 ra ma hb1 HC
  go_wp2_with fail
  go_loopw [3, 9] (fun v i wr => ∃ k : Nat, k ≤ L.length ∧ i = .int .i64 k ∧ v = .int .i64 (totR (L.take k)) ∧ Hid (Below w1.heap.size w1 wr)) (fun _ i _ => L.length - (intOf i).toNat)
  case atStart => exact ⟨0, Nat.zero_le _, rfl, rfl, Lib.hid (Below.refl _ _)⟩
  case round =>
    obtain ⟨k, hk, rfl, rfl, HB1⟩ := hrel
    by_cases hlt : k < L.length
    · obtain ⟨b0, off, rfl, hbB, hc⟩ := (HR.out.below HB1.out).rg (by omega)
      obtain ⟨x1, x2⟩ := hc k hlt
      have hi : (k : Int) < (L.length : Int) := by omega
      have hT1 := totR_take L k hlt
      have hb0 := HBd.out k
      have hb1 := HBd.out (k + 1)
      have hp := HP.out _ (List.getElem_mem hlt)
      have hfl := HFL.out _ (List.getElem_mem hlt)
      have hle := HLe.out
      have ht := HT.out
      clear hc
      generalize L[k].1 = x at *
      generalize L[k].2 = y at *
      generalize hs : totR (L.take k) = s at *
      have HS1 := Lib.hid hT1
      have b1 : 0 ≤ y - x := by omega
      have b2 : y - x ≤ 9223372036854775807 := by omega
      have b3 : 0 ≤ s + (y - x) := by omega
      have b4 : s + (y - x) ≤ 9223372036854775807 := by omega
      have b5 : 0 ≤ x := by omega
      have b6 : y ≤ 9223372036854775807 := by omega
      have b7 := hb0.1
      clear hs hT1 hb0 hb1 hp hfl hle ht
      go_wp2
      go_roundw
      case rel => exact ⟨k + 1, by omega, by go_num, by rw [HS1.out], Lib.hid (HB1.out.alloc HB1.out.size _)⟩
      case measure => simp [intOf]; omega
    · obtain rfl : k = L.length := by omega
      have hT := HT.out
      rw [List.take_length]
      generalize totR L = s at *
      go_wp2
      go_ret
      exact ⟨by rw [hT]; rfl, HB.out.trans (HB1.out.mono HB.out.size)⟩

theorem fitOf_more (n : Int) (l m : List Rg) (h : (fitOf n l).2 = true) : fitOf n (l ++ m) = fitOf n l := by
  induction l with
  | nil => simp [fitOf] at h
  | cons r l ih =>
    rw [List.cons_append, fitOf, fitOf]
    by_cases hc : 1 ≤ n ∧ n ≤ r.2 - r.1
    · rw [if_pos hc, if_pos hc]
    · rw [if_neg hc, if_neg hc]
      rw [fitOf, if_neg hc] at h
      exact ih h
theorem fitOf_take (n : Int) (l : List Rg) (k : Nat) (h : k < l.length) (h0 : (fitOf n (l.take k)).2 = false) (h1 : 1 ≤ n) :
    (n ≤ l[k].2 - l[k].1 → fitOf n l = (l[k].1, true)) ∧ (¬ n ≤ l[k].2 - l[k].1 → (fitOf n (l.take (k + 1))).2 = false) := by
  have e : fitOf n (l.take (k + 1)) = if 1 ≤ n ∧ n ≤ l[k].2 - l[k].1 then (l[k].1, true) else (0, false) := by
    rw [List.take_succ_eq_append_getElem h, fitOf_snoc, h0]
    rfl
  refine ⟨fun hc => ?_, fun hc => ?_⟩
  · rw [if_pos ⟨h1, hc⟩] at e
    have e2 : fitOf n (l.take (k + 1) ++ l.drop (k + 1)) = fitOf n (l.take (k + 1)) := fitOf_more _ _ _ (by rw [e])
    rw [List.take_append_drop] at e2
    rw [e2, e]
  · rw [if_neg (fun hh => hc hh.2)] at e
    rw [e]
set_option maxHeartbeats 800000 in
theorem rFit_any (a : List Rg) (n : Int) (A : Option Addr) (c : Nat) (w : World) (h : RgIn w A a) (_hn1 : -9223372036854775808 ≤ n) (_hn2 : n ≤ 9223372036854775807) :
    Calls Try.prog 23 #[.slice A a.length c, .int .i64 n] w fun e w' => FitAt w a n e w' := by
  by_cases hn : n < 1
  · clear h
    go_enter Try.func23, Try.ntmps23
    go_wp2
    go_ret2
    exact ⟨0, false, rfl, .inr ⟨rfl, rfl, .inl hn⟩, Below.refl _ _⟩
  · have hn' : 1 ≤ n := by omega
    have HC := Lib.hid (norm_any a A c w h)
    have HF := Lib.hid h.2.2
    have hla := h.2.1
    clear h hn
    go_enter Try.func23, Try.ntmps23
    go_wp2_with fail
    refine HC.out.mono ?_
    rintro e w1 ⟨A1, c1, L, rfl, r1, ra, ma, l1, hb1⟩
    have HA := Lib.hid (fitOf_ans n ⟨ra, ma⟩)
    have HP := Lib.hid (right_pos ra)
    have HFL := Lib.hid (canon_fits (p := memR a) ⟨ra, ma⟩ (fun n hn => mem_lt HF.out hn))
    have HR := Lib.hid r1
    have HB := Lib.hid hb1
    have hbs := hb1.size
    clear r1 ra ma hb1 HC
    go_wp2_with fail
    go_loopw [13] (fun i wr => ∃ k : Nat, k ≤ L.length ∧ i = .int .i64 k ∧ Hid ((fitOf n (L.take k)).2 = false) ∧ Hid (Below w1.heap.size w1 wr)) (fun i _ => L.length - (intOf i).toNat)
    case atStart => exact ⟨0, Nat.zero_le _, rfl, rfl, Lib.hid (Below.refl _ _)⟩
    case round =>
      obtain ⟨k, hk, rfl, HN, HB1⟩ := hrel
      by_cases hlt : k < L.length
      · obtain ⟨b0, off, rfl, hbB, hc⟩ := (HR.out.below HB1.out).rg (by omega)
        obtain ⟨x1, x2⟩ := hc k hlt
        have hi : (k : Int) < (L.length : Int) := by omega
        have HT := Lib.hid (fitOf_take n L k hlt HN.out hn')
        have hp := HP.out _ (List.getElem_mem hlt)
        have hfl := HFL.out _ (List.getElem_mem hlt)
        clear hc HN
        generalize L[k].1 = x at *
        generalize L[k].2 = y at *
        have b1 : 0 ≤ y - x := by omega
        have b2 : y - x ≤ 9223372036854775807 := by omega
        have b5 : 0 ≤ x := by omega
        have b6 : y ≤ 9223372036854775807 := by omega
        have HB2 := Lib.hid (HB.out.trans ((HB1.out.alloc HB1.out.size (.cells #[.int .i64 x, .int .i64 y] 30)).mono HB.out.size))
        clear hp hfl
        by_cases hfit : n ≤ y - x
        · have HE := Lib.hid (HT.out.1 hfit)
          clear HT
          go_wp2
          go_ret2
          refine ⟨x, true, rfl, ?_, HB2.out⟩
          have := HA.out
          rw [HE.out] at this
          exact this
        · have HE := Lib.hid (HT.out.2 hfit)
          have hfit' : y - x < n := by omega
          clear HT hfit
          go_wp2
          go_roundw
          case rel => exact ⟨k + 1, by omega, by go_num, HE, Lib.hid (HB1.out.alloc HB1.out.size _)⟩
          case measure => simp [intOf]; omega
      · obtain rfl : k = L.length := by omega
        have hN := HN.out
        rw [List.take_length] at hN
        have HE := Lib.hid hN
        clear hN HN
        go_wp2
        go_ret2
        refine ⟨0, false, rfl, ?_, HB.out.trans (HB1.out.mono HB.out.size)⟩
        have := HA.out
        rw [HE.out, (fitOf_none n L HE.out).1] at this
        exact this
end Go.Proofs.Ytfdmbgaincmefaa
