/- Contracts of ranges.Right and ranges.Has: whether a list is right, whether a number is one of its. Conditions: the slice reads as the list that is named, is short, and its numbers fit. -/
import Derived.Test.YtfdmbgaincmefaaRngN
import Derived.Test.YtfdmbgaincmefaaChecked
import Derived.Test.YtfdmbgaincmefaaRngL
import Derived.Shelf.SlicesQ.IndexFunc
import Derived.Lib.SliceRun
namespace Go.Proofs.Ytfdmbgaincmefaa
open Go.RowKit Go.Shelf Go.Lib

theorem rightB_drop (b : Int) (l : List Rg) (k : Nat) (h : k < l.length) : rightB b (l.drop k) = (decide (b < l[k].1) && decide (l[k].1 < l[k].2) && rightB l[k].2 (l.drop (k + 1))) := by
  rw [List.drop_eq_getElem_cons h, rightB]

set_option maxHeartbeats 800000 in
theorem rRight_any (a : List Rg) (A : Option Addr) (c : Nat) (w : World) (h : RgIn w A a) :
    Calls Try.prog 21 #[.slice A a.length c] w fun e w' => e = .returned (.bool (isRight a)) ∧ Below w.heap.size w w' := by
  obtain ⟨h, hl, hf⟩ := h
  have HF := Lib.hid hf
  clear hf
  go_enter Try.func21, Try.ntmps21
  go_wp2
  go_loopw [3, 8] (fun v i wr => ∃ (k : Nat) (b : Int), k ≤ a.length ∧ i = .int .i64 k ∧ v = .int .i64 b ∧ Hid (isRight a = rightB b (a.drop k)) ∧ Below w.heap.size w wr) (fun _ i _ => a.length - (intOf i).toNat)
  case atStart => exact ⟨0, -1, Nat.zero_le _, rfl, rfl, rfl, Below.refl _ _⟩
  case round =>
    obtain ⟨k, b, hk, rfl, rfl, HR, hbel⟩ := hrel
    by_cases hlt : k < a.length
    · obtain ⟨b0, off, rfl, hbB, hc⟩ := (h.here2.below hbel).rg (by omega)
      obtain ⟨x1, x2⟩ := hc k hlt
      have hi : (k : Int) < (a.length : Int) := by omega
      have HN := Lib.hid (rightB_drop b a k hlt)
      have hbs := hbel.size
      clear hc
      generalize a[k].1 = x at *
      generalize a[k].2 = y at *
      have HB := Lib.hid hbel
      clear hbel
      by_cases hx : x ≤ b
      · have HE : Hid (isRight a = false) := by
          show _ = _
          rw [HR.out, HN.out, decide_eq_false (by omega)]; rfl
        go_wp2
        go_ret
        rw [HE.out]
        exact ⟨rfl, HB.out.alloc hbs _⟩
      · have hx' : b < x := by omega
        by_cases hy : y ≤ x
        · have HE : Hid (isRight a = false) := by
            show _ = _
            rw [HR.out, HN.out, decide_eq_true hx', decide_eq_false (show ¬ x < y by omega)]; rfl
          clear hx
          go_wp2
          go_ret
          rw [HE.out]
          exact ⟨rfl, HB.out.alloc hbs _⟩
        · have hy' : x < y := by omega
          have HE : Hid (isRight a = rightB y (a.drop (k + 1))) := by
            show _ = _
            rw [HR.out, HN.out, decide_eq_true hx', decide_eq_true hy']; rfl
          clear hx hy
          go_wp2
          go_roundw
          case rel => exact ⟨k + 1, y, by omega, by go_num, rfl, HE, HB.out.alloc hbs _⟩
          case measure => simp [intOf]; omega
    · obtain rfl : k = a.length := by omega
      have hr := HR.out
      rw [List.drop_length] at hr
      have HE := Lib.hid hr
      clear hr HR
      have HB := Lib.hid hbel
      clear hbel
      go_wp2
      go_ret
      rw [HE.out]
      exact ⟨rfl, HB.out⟩

/-- The two cells of a range. -/
def encRg (x : Rg) : List Value := [.int .i64 x.1, .int .i64 x.2]

/-- The closure of Has: n lies in a block of the caller's. -/
theorem has_pred (n : Int) (B : Nat) (w : World) (hB : B < w.heap.size) (hcell : w.cell? ⟨B, 0, none⟩ = some (.int .i64 n)) :
    PredBelow Try.prog 32 #[.pointer (some ⟨B, 0, none⟩)] (fun x => .agg (encRg x).toArray) (fun x => decide (x.1 ≤ n) && decide (n < x.2)) w := fun W x hb => by
  have hc : W.cell? ⟨B, 0, none⟩ = some (.int .i64 n) := (hb.cell (p := ⟨B, 0, none⟩) hB).trans hcell
  have hBW : B < W.heap.size := Nat.lt_of_lt_of_le hB hb.size
  have hne : B ≠ W.heap.size := by omega
  show Calls Try.prog 32 #[.agg #[.int .i64 x.1, .int .i64 x.2], .pointer (some ⟨B, 0, none⟩)] W _
  obtain ⟨x, y⟩ := x
  have HB := Lib.hid (hb.alloc hb.size (.cells #[.int .i64 x, .int .i64 y] 30))
  clear hb
  by_cases h1 : x ≤ n
  · by_cases h2 : n < y
    · go_enter Try.func32, Try.ntmps32
      go_wp2
      go_ret
      exact ⟨by simp [h1, h2], HB.out⟩
    · have h2' : y ≤ n := by omega
      go_enter Try.func32, Try.ntmps32
      go_wp2
      go_ret
      exact ⟨by simp [h2'], HB.out⟩
  · have h1' : n < x := by omega
    go_enter Try.func32, Try.ntmps32
    go_wp2
    go_ret
    exact ⟨by simp; omega, HB.out⟩

theorem hasR_neg (a : List Rg) (n : Int) (h : n < 0) : hasR a n = false := by
  rw [hasR, List.any_eq_false]
  intro r _
  simp [show ¬ 0 ≤ n by omega]
theorem hasR_pos (a : List Rg) (n : Int) (h : 0 ≤ n) : hasR a n = a.any fun r => decide (r.1 ≤ n) && decide (n < r.2) := by
  unfold hasR
  simp [h]

set_option maxHeartbeats 800000 in
theorem rHas_any (a : List Rg) (n : Int) (A : Option Addr) (c : Nat) (w : World) (h : RgIn w A a) (hn1 : -9223372036854775808 ≤ n) (hn2 : n ≤ 9223372036854775807) :
    Calls Try.prog 25 #[.slice A a.length c, .int .i64 n] w fun e w' => e = .returned (.bool (hasR a n)) ∧ Below w.heap.size w w' := by
  obtain ⟨h, hl, _⟩ := h
  by_cases hneg : n < 0
  · have HE := Lib.hid (hasR_neg a n hneg)
    have HB := Lib.hid ((Below.refl w.heap.size w).alloc (Nat.le_refl _) (.cells #[.int .i64 n] 3))
    clear h
    go_enter Try.func25, Try.ntmps25
    go_wp2
    go_ret
    rw [HE.out]
    exact ⟨rfl, HB.out⟩
  · have h0 : 0 ≤ n := by omega
    have HE := Lib.hid (hasR_pos a n h0)
    clear hneg
    have eg : ∀ args w, (callFunc 32 args).run Try.prog w = .ok (.enter 32 args) w := enters_of Try.func32 (by kernel_rfl) rfl
    by_cases hlen : 0 < a.length
    · obtain ⟨b, off, rfl, hb, hc⟩ := h.rg hlen
      have hcon := AnyQ.slices_ContainsFunc hasLaid 2 Try.isAgg30 Try.sizeOf30 encRg (fun _ => rfl) (fun x => decide (x.1 ≤ n) && decide (n < x.2)) 32 #[.pointer (some ⟨w.heap.size, 0, none⟩)] eg b off a.length c a (w.alloc (.cells #[.int .i64 n] 3))
        (has_pred n w.heap.size _ (by simp) (by simp)) (Nat.le_refl _) (by omega) (by simp; omega) (fun j hj i v hi => by
          refine Lib.cell?_alloc_some _ ?_
          obtain ⟨h1, h2⟩ := hc j hj
          rw [show a[j]! = a[j] from by simp [hj]] at hi
          generalize a[j] = y at hi h1 h2
          match i, hi with
          | 0, hi => simp [encRg] at hi; rw [← hi]; exact h1
          | 1, hi => simp [encRg] at hi; rw [← hi]; exact h2
          | i + 2, hi => simp [encRg] at hi)
      change Calls Try.prog 31 _ _ _ at hcon
      rw [List.take_length, ← HE.out] at hcon
      have HC := Lib.hid hcon
      clear hc h hcon HE
      generalize hasR a n = r at HC ⊢
      go_enter Try.func25, Try.ntmps25
      go_wp2_with (go_at_call 31; refine HC.out.mono ?_; rintro e w' ⟨rfl, hb'⟩)
      go_ret
      exact ⟨rfl, ((Below.refl _ w).alloc (Nat.le_refl _) _).trans (hb'.mono (by simp))⟩
    · have ha : a = [] := List.eq_nil_of_length_eq_zero (by omega)
      subst ha
      have HB := Lib.hid ((Below.refl w.heap.size w).alloc (Nat.le_refl _) (.cells #[.int .i64 n] 3))
      clear h hlen eg
      go_enter Try.func25, Try.ntmps25
      go_wp2
      refine wp_loop_rounds 1 ?_
      rw [rounds_succ]
      go_wp2
      go_ret
      exact ⟨rfl, HB.out⟩
end Go.Proofs.Ytfdmbgaincmefaa
