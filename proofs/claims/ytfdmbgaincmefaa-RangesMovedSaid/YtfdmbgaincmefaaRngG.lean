/- How the contracts of package ranges are stated: what comes in, what a mix answers, what Fit answers; and octavoref03.Mix and Same in those words. Conditions: those that each theorem names. -/
import Derived.Test.YtfdmbgaincmefaaRngE
import Derived.Test.YtfdmbgaincmefaaRngMore
namespace Go.Proofs.Ytfdmbgaincmefaa
open Go.RowKit

/-- A list that is handed in: where it lies, that it is short, that its numbers fit. -/
def RgIn (w : World) (A : Option Addr) (l : List Rg) : Prop := Reads w w.heap.size 2 A l.length (rgv l) ∧ l.length ≤ 1000000 ∧ Fits64 l
/-- A right list of the numbers that p says is answered. -/
def MixAt (w : World) (p : Int → Prop) (e : Ending) (w' : World) : Prop :=
  ∃ A c L, e = .returned (.slice A L.length c) ∧ Reads w' w'.heap.size 2 A L.length (rgv L) ∧ Canon L p ∧ Below w.heap.size w w'
def FitAt (w : World) (l : List Rg) (n : Int) (e : Ending) (w' : World) : Prop :=
  ∃ at' ok, e = .returned (.tuple #[.int .i64 at', .bool ok]) ∧ FitAns l n at' ok ∧ Below w.heap.size w w'

/-- All that was there is as it was. -/
def Und (w w' : World) : Prop := Below w.heap.size w w'
theorem und_refl (w : World) : Und w w := Below.refl _ _
theorem und_drew {w w' : World} (h : Und w w') : Und w w'.drew := Below.drew h
theorem und_alloc {w w' : World} (h : Und w w') (o : Obj) : Und w (w'.alloc o) := Below.alloc h (Below.size h) o
theorem und_call {w w' w'' : World} (h : Und w w') (hb : Below w'.heap.size w' w'') : Und w w'' := Below.trans h (hb.mono (Below.size h))
theorem und_trans {w w' w'' : World} (h : Und w w') (k : Und w' w'') : Und w w'' := und_call h k
theorem RgIn.und {w w' : World} {A : Option Addr} {l : List Rg} (h : RgIn w A l) (hu : Und w w') : RgIn w' A l := ⟨(h.1.below hu).here2, h.2⟩
theorem rgin_nil (w : World) : RgIn w none [] := ⟨Reads.none_, by simp, fun r hr => by cases hr⟩
theorem rgin_new (w : World) (t : TypeId) (l : List Rg) (g : Nat) (hg : w.heap.size = g) (hl : l.length ≤ 1000000) (hf : Fits64 l) : RgIn (w.alloc (.cells (rgv l).toArray t)) (some ⟨g, 0, none⟩) l := by
  subst hg
  exact ⟨⟨rgv_length l, fun _ => ⟨_, rfl, by simp, cells_new w t (rgv l)⟩⟩, hl, hf⟩
theorem RgIn.of_lent {w : World} {base : Nat} {v : Value} {l : List Rg} (h : LentR w base v l) (hl : l.length ≤ 1000000) (hf : Fits64 l) : ∃ g cap, v = .slice (some ⟨g, 0, none⟩) l.length cap ∧ RgIn w (some ⟨g, 0, none⟩) l := by
  obtain ⟨g, cap, e, _, hr⟩ := h.reads
  exact ⟨g, cap, e, hr, hl, hf⟩

theorem RgIn.below {w w' : World} {A : Option Addr} {l : List Rg} (h : RgIn w A l) (hb : Below w.heap.size w w') : RgIn w' A l := ⟨(h.1.below hb).here2, h.2⟩
theorem RgIn.alloc {w : World} {A : Option Addr} {l : List Rg} (h : RgIn w A l) (o : Obj) : RgIn (w.alloc o) A l := ⟨(h.1.alloc (Nat.le_refl _) o).here2, h.2⟩
theorem RgIn.drew {w : World} {A : Option Addr} {l : List Rg} (h : RgIn w A l) : RgIn w.drew A l := h
/-- What a mix answers may be handed in again. -/
theorem mix_in {w : World} {a b L : List Rg} {A : Option Addr} {way : Int} (hway : way = 0 ∨ way = 1 ∨ way = 2) (ha : a.length ≤ 200000) (hb : b.length ≤ 200000) (fa : Fits64 a) (fb : Fits64 b)
    (hr : Reads w w.heap.size 2 A L.length (rgv L)) (hc : Canon L (wayP a b way)) : RgIn w A L :=
  ⟨hr, by have := canon_length hc; omega, canon_fits hc fun _ hn => way_lt hway fa fb hn⟩
theorem fits_nil : Fits64 [] := fun r hr => by cases hr
theorem wayP_nil (a : List Rg) (n : Int) : wayP a [] 0 n ↔ memR a n := by
  rw [way0]
  exact ⟨fun h => h.elim id fun h => absurd h (memR_nil n), .inl⟩

theorem refMix_at (a b : List Rg) (way : Int) (hway : way = 0 ∨ way = 1 ∨ way = 2) (A A' : Option Addr) (c c' : Nat) (w : World) (h : RgIn w A a) (h' : RgIn w A' b) :
    Calls Try.prog 16 #[.slice A a.length c, .slice A' b.length c', .int .i64 way] w fun e w' => MixAt w (wayP a b way) e w' :=
  (mix_any a b way hway A A' _ _ c c' w (by have := h.2.1; omega) (by have := h'.2.1; omega) h.1 h'.1).mono fun e w' ⟨v, L, he, ho, hc, _, hb⟩ => by
    obtain ⟨A7, c7, rfl, _, _, hr, _⟩ := own_formN ho (by omega)
    exact ⟨A7, c7, L, he, hr, hc, hb⟩
theorem refSame_at (a b : List Rg) (A A' : Option Addr) (c c' : Nat) (w : World) (h : RgIn w A a) (h' : RgIn w A' b) :
    Calls Try.prog 14 #[.slice A a.length c, .slice A' b.length c'] w fun e w' => e = .returned (.bool (decide (a = b))) ∧ Below w.heap.size w w' :=
  refSame_any a b A A' _ _ c c' w (by have := h.2.1; omega) (by have := h'.2.1; omega) h.1 h'.1

theorem mem0 {a b L : List Rg} (h : Canon L (wayP a b 0)) (n : Int) : memR L n ↔ memR a n ∨ memR b n := (h.2 n).trans (way0 a b n)
theorem mem1 {a b L : List Rg} (h : Canon L (wayP a b 1)) (n : Int) : memR L n ↔ memR a n ∧ memR b n := (h.2 n).trans (way1 a b n)
theorem mem2 {a b L : List Rg} (h : Canon L (wayP a b 2)) (n : Int) : memR L n ↔ memR a n ∧ ¬ memR b n := (h.2 n).trans (way2 a b n)
theorem has0 {a b L : List Rg} (h : Canon L (wayP a b 0)) (n : Int) : hasR L n = (hasR a n || hasR b n) := by
  rw [Bool.eq_iff_iff, hasR_iff, mem0 h, Bool.or_eq_true, hasR_iff, hasR_iff]
theorem has1 {a b L : List Rg} (h : Canon L (wayP a b 1)) (n : Int) : hasR L n = (hasR a n && hasR b n) := by
  rw [Bool.eq_iff_iff, hasR_iff, mem1 h, Bool.and_eq_true, hasR_iff, hasR_iff]
theorem has2 {a b L : List Rg} (h : Canon L (wayP a b 2)) (n : Int) : hasR L n = (hasR a n && !hasR b n) := by
  rw [Bool.eq_iff_iff, hasR_iff, mem2 h, Bool.and_eq_true, hasR_iff, Bool.not_eq_true', ← hasR_iff b n, Bool.not_eq_true]
theorem tot01 {a b E B : List Rg} (hE : Canon E (wayP a b 0)) (hB : Canon B (wayP a b 1)) : totN E + totN B = totN a + totN b := by
  unfold totN
  rw [cnt_congr (fun n => mem0 hE n), cnt_congr (fun n => mem1 hB n)]
  exact cnt_split _ _ _
theorem tot21 {a b D B : List Rg} (hD : Canon D (wayP a b 2)) (hB : Canon B (wayP a b 1)) : totN D + totN B = totN a := by
  unfold totN
  rw [cnt_congr (fun n => mem2 hD n), cnt_congr (fun n => mem1 hB n)]
  exact cnt_less _ _ _
theorem empty_of {L : List Rg} (h : rightR L) (he : ∀ n, ¬ memR L n) : L = [] := right_unique h (by trivial) fun n => ⟨fun x => absurd x (he n), fun x => absurd x (memR_nil n)⟩
theorem right_of_canon {l L : List Rg} (h : Canon L (wayP l [] 0)) : decide (l = L) = isRight l := by
  rcases hr : isRight l with _ | _
  · rw [decide_eq_false_iff_not]
    rintro rfl
    rw [(isRight_iff l).2 h.1] at hr
    cases hr
  · rw [decide_eq_true_iff]
    exact (Canon.mem ((isRight_iff l).1 hr)).unique h fun n => (wayP_nil l n).symm
set_option maxHeartbeats 400000 in
theorem refRight_at (a : List Rg) (A : Option Addr) (c : Nat) (w : World) (h : RgIn w A a) (ha : a.length ≤ 200000) :
    Calls Try.prog 22 #[.slice A a.length c] w fun e w' => e = .returned (.bool (isRight a)) ∧ Below w.heap.size w w' := by
  have HM := Lib.hid (refMix_at a [] 0 (Or.inl rfl) A none c 0 w h (rgin_nil w))
  have IA := Lib.hid h
  clear h
  go_enter Try.func22, Try.ntmps22
  go_wp2_with fail
  refine HM.out.mono ?_
  rintro e w1 ⟨A1, c1, L, rfl, r1, n1, hb1⟩
  have R1 := Lib.hid (mix_in (Or.inl rfl) (by omega) (by simp) IA.out.2.2 fits_nil r1 n1)
  have E := Lib.hid (right_of_canon n1)
  have IA1 := Lib.hid (IA.out.below hb1)
  have U1 := Lib.hid (und_call (und_refl w) hb1)
  clear r1 n1 hb1
  go_wp2_with fail
  refine (refSame_at a L A A1 c c1 w1 IA1.out R1.out).mono ?_
  rw [E.out]
  rintro e w2 ⟨rfl, hb2⟩
  have U2 := Lib.hid (und_call U1.out hb2)
  clear hb2
  go_wp2
  go_ret
  exact ⟨rfl, U2.out⟩

set_option maxHeartbeats 400000 in
theorem long_any (a b : List Rg) (A A' : Option Addr) (c c' : Nat) (w : World) :
    Calls Try.prog 12 #[.slice A a.length c, .slice A' b.length c'] w fun e w' => e = .returned (.bool (decide (60 < a.length) || decide (60 < b.length))) ∧ w = w' := by
  by_cases h1 : 60 < a.length
  · have h1' : (60 : Int) < (a.length : Int) := by omega
    have h1b : decide (60 < a.length) = true := decide_eq_true h1
    clear h1
    go_enter Try.func12, Try.ntmps12
    go_wp2
    go_ret
    simp
    omega
  · have h1' : (a.length : Int) ≤ 60 := by omega
    have h1b : decide (60 < a.length) = false := decide_eq_false h1
    by_cases h2 : 60 < b.length
    · have h2' : (60 : Int) < (b.length : Int) := by omega
      have h2b : decide (60 < b.length) = true := decide_eq_true h2
      clear h1 h2
      go_enter Try.func12, Try.ntmps12
      go_wp2
      go_ret
      simp
      omega
    · have h2' : (b.length : Int) ≤ 60 := by omega
      have h2b : decide (60 < b.length) = false := decide_eq_false h2
      clear h1 h2
      go_enter Try.func12, Try.ntmps12
      go_wp2
      go_ret
      simp [h1b, h2b]
      omega
end Go.Proofs.Ytfdmbgaincmefaa
