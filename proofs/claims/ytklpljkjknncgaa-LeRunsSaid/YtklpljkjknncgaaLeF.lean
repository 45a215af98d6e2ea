/- Contracts of le.On and of a Reader's Left, Place and ahead, and of its Int where it refuses; what a reader is in memory. Conditions: the reader holds the list that is named. -/
import Derived.Test.YtklpljkjknncgaaLeE
import Derived.Test.YtklpljkjknncgaaLeC
import Derived.BigQuiet
import Derived.Deep.QuietTactic
namespace Go.Proofs.Ytklpljkjknncgaa
open Go.RowKit

/-- A reader that lies in block g, with the bytes l, of which p were read; all of it lies from block L on and below block B. -/
def RdAt (w : World) (L B g : Nat) (l : List UInt8) (p : Nat) : Prop :=
  p ≤ l.length ∧ (L ≤ g ∧ g < B) ∧ ∃ A c, l.length ≤ c ∧ c ≤ maxLen ∧ (∀ ad, A = some ad → ad.block ≠ g ∧ L ≤ ad.block) ∧ Blk w g 56 #[.slice A l.length c, .int .i64 (p : Int)] ∧ Reads w B 1 A l.length (bv l)

theorem RdAt.below {w w' : World} {L B g : Nat} {l : List UInt8} {p : Nat} (h : RdAt w L B g l p) (hb : Below B w w') : RdAt w' L B g l p := by
  obtain ⟨hp, hg, A, c, h1, h2, h3, h4, h5⟩ := h
  exact ⟨hp, hg, A, c, h1, h2, h3, h4.below hb hg.2, h5.below hb⟩
theorem RdAt.more {w : World} {L B B' g : Nat} {l : List UInt8} {p : Nat} (h : RdAt w L B g l p) (hb : B ≤ B') : RdAt w L B' g l p := by
  obtain ⟨hp, hg, A, c, h1, h2, h3, h4, h5⟩ := h
  exact ⟨hp, ⟨hg.1, by omega⟩, A, c, h1, h2, h3, h4, h5.more hb⟩

set_option maxHeartbeats 400000 in
theorem on_any (l : List UInt8) (A : Option Addr) (B c : Nat) (w : World) (hl : l.length ≤ 140737488355328) (h : Reads w B 1 A l.length (bv l)) :
    Calls Try.prog 20 #[.slice A l.length c] w fun e w' => ∃ g, e = .returned (.pointer (some ⟨g, 0, none⟩)) ∧ w.heap.size ≤ g ∧ RdAt w' w.heap.size w'.heap.size g l 0 ∧ Below w.heap.size w w' := by
  go_enter Try.func20, Try.ntmps20
  go_wp2_with fail
  refine (clone_any l A B c _ hl h).mono ?_
  rintro e w1 ⟨v1, rfl, hown1, hb1⟩
  have hbs := hb1.size
  obtain ⟨A1, c1, rfl, hc1, hm1, hr1, hA1⟩ := own_form hown1
  go_wp2
  go_ret
  refine ⟨w1.heap.size, rfl, hbs, ⟨Nat.zero_le _, ⟨hbs, by simp⟩, A1, c1, hc1, hm1, fun ad e => ?_, Blk.new w1 _ _, (hr1.alloc (Nat.le_refl _) _).more (by simp)⟩, hb1.alloc hbs _⟩
  have := hA1 ad e
  exact ⟨by omega, this.1⟩

theorem left_nil (w : World) :
    Calls Try.prog 23 #[.pointer none] w fun e w' => e = .returned (.int .i64 0) ∧ w = w' := by
  go_enter Try.func23, Try.ntmps23
  go_wp2
  go_ret
  exact ⟨rfl, rfl⟩
theorem place_nil (w : World) :
    Calls Try.prog 22 #[.pointer none] w fun e w' => e = .returned (.int .i64 0) ∧ w = w' := by
  go_enter Try.func22, Try.ntmps22
  go_wp2
  go_ret
  exact ⟨rfl, rfl⟩

set_option maxHeartbeats 400000 in
theorem left_any (w : World) (L B g : Nat) (l : List UInt8) (p : Nat) (h : RdAt w L B g l p) :
    Calls Try.prog 23 #[.pointer (some ⟨g, 0, none⟩)] w fun e w' => e = .returned (.int .i64 ((l.length - p : Nat) : Int)) ∧ Below w.heap.size w w' := by
  obtain ⟨hp, hg, A, c, h1, h2, h3, h4, h5⟩ := h
  have c0 := h4.cell 0
  have c1 := h4.cell 1
  simp at c0 c1
  unfold maxLen at h2
  go_enter Try.func23, Try.ntmps23
  go_wp2
  go_quiet (fail)
  go_wp2
  go_ret
  exact ⟨by rw [show ((l.length - p : Nat) : Int) = (l.length : Int) - (p : Int) from by omega]; rfl, below_drewN (Below.refl _ _) _⟩
theorem place_any (w : World) (L B g : Nat) (l : List UInt8) (p : Nat) (h : RdAt w L B g l p) :
    Calls Try.prog 22 #[.pointer (some ⟨g, 0, none⟩)] w fun e w' => e = .returned (.int .i64 (p : Int)) ∧ Below w.heap.size w w' := by
  obtain ⟨hp, hg, A, c, h1, h2, h3, h4, h5⟩ := h
  have c1 := h4.cell 1
  simp at c1
  go_enter Try.func22, Try.ntmps22
  go_wp2
  go_ret
  exact ⟨rfl, Below.refl _ _⟩

theorem ahead_nil (n : Int) (w : World) :
    Calls Try.prog 29 #[.pointer none, .int .i64 n] w fun e w' => e = .returned (.tuple #[.slice none 0 0, .int .i64 1]) ∧ w = w' := by
  go_enter Try.func29, Try.ntmps29
  go_wp2
  go_ret2
  exact ⟨rfl, rfl⟩

set_option maxHeartbeats 400000 in
theorem ahead_neg (n : Int) (w : World) (a : Addr) (hn : n < 0) :
    Calls Try.prog 29 #[.pointer (some a), .int .i64 n] w fun e w' => e = .returned (.tuple #[.slice none 0 0, .int .i64 1]) ∧ w = w' := by
  go_enter Try.func29, Try.ntmps29
  go_wp2
  go_ret2
  exact ⟨rfl, rfl⟩

set_option maxHeartbeats 400000 in
theorem ahead_short (n : Nat) (w : World) (L B g : Nat) (l : List UInt8) (p : Nat) (h : RdAt w L B g l p) (hn : l.length - p < n) :
    Calls Try.prog 29 #[.pointer (some ⟨g, 0, none⟩), .int .i64 n] w fun e w' => e = .returned (.tuple #[.slice none 0 0, .int .i64 3]) ∧ Below w.heap.size w w' := by
  go_enter Try.func29, Try.ntmps29
  go_wp2_with fail
  refine (left_any w L B g l p h).mono ?_
  rintro e w1 ⟨rfl, hb1⟩
  go_wp2
  go_ret2
  exact ⟨rfl, hb1⟩

theorem ret2_slice {A : Option Addr} {n n' c : Nat} {v : Value} (h : n = n') : Ending.returned (.tuple #[.slice A n c, v]) = .returned (.tuple #[.slice A n' c, v]) := by rw [h]

/-- What ahead answers where there is enough. -/
def AheadOk (w : World) (B g n : Nat) (l : List UInt8) (e : Ending) (w' : World) : Prop :=
  ∃ A c, n ≤ c ∧ e = .returned (.tuple #[.slice A n c, .int .i64 0]) ∧ (∀ ad, A = some ad → ad.block ≠ g) ∧ Reads w' B 1 A n (bv l) ∧ Below w.heap.size w w'

set_option maxHeartbeats 400000 in
theorem ahead_ok (n : Nat) (w : World) (L B g : Nat) (l : List UInt8) (p : Nat) (h : RdAt w L B g l p) (hn : n ≤ l.length - p) :
    Calls Try.prog 29 #[.pointer (some ⟨g, 0, none⟩), .int .i64 n] w (AheadOk w B g n ((l.drop p).take n)) := by
  obtain ⟨hp, hg, A, c, h1, h2, h3, h4, h5⟩ := id h
  unfold maxLen at h2
  go_enter Try.func29, Try.ntmps29
  go_wp2_with fail
  refine (left_any w L B g l p h).mono ?_
  rintro e w1 ⟨rfl, hb1⟩
  have hb4 := h4.below hb1 (by have := h4.lt; omega)
  have c0 := hb4.cell 0
  have c1 := hb4.cell 1
  simp at c0 c1
  have hb5 := (h5.over hb1).more (B' := w.heap.size + B) (by omega)
  have hcut := (hb5.cut (k := p) hp h1).take hn
  rw [← bv_take_drop, Nat.mul_one] at hcut
  have HC := Lib.hid hcut
  have H5 := Lib.hid h5
  have H3 := Lib.hid h3
  clear hcut hb5 h5 h3 h4 hb4 h
  by_cases hcp : c = p
  · have hA : Reads w1 B 1 A n (bv ((l.drop p).take n)) := by
      have := HC.out
      rw [if_pos hcp] at this
      obtain rfl : n = 0 := by omega
      exact ⟨this.1, fun h0 => by omega⟩
    have HA := Lib.hid hA
    clear hA HC
    subst hcp
    go_wp2
    go_quiet (fail)
    go_wp2
    go_ret2
    exact ⟨A, 0, by omega, ret2_slice (by omega), fun ad e => (H3.out ad e).1, HA.out.drewN _, below_drewN hb1 _⟩
  · have hA : Reads w1 B 1 (A.map (·.add p)) n (bv ((l.drop p).take n)) := by
      have := HC.out
      rw [if_neg hcp] at this
      refine ⟨this.1, fun h0 => ?_⟩
      obtain ⟨ad, e, _, hc⟩ := this.2 h0
      refine ⟨ad, e, ?_, hc⟩
      obtain ⟨ad0, rfl, hb0, _⟩ := H5.out.2 (by omega)
      injection e with e
      subst e
      rw [block_of_add]
      exact hb0
    have HA := Lib.hid hA
    clear hA HC
    go_wp2
    go_quiet (fail)
    go_wp2
    go_ret2
    refine ⟨_, c - p, by omega, ret2_slice (by omega), fun ad e => ?_, HA.out.drewN _, below_drewN hb1 _⟩
    rcases A with _ | ad0
    · cases e
    · injection e with e
      subst e
      rw [block_of_add]
      exact (H3.out _ rfl).1

/-- What a reader's call does beside its answer: block g alone, and what is new, has turned; the reader stands at q. -/
def RdTo (w w' : World) (L B g : Nat) (l : List UInt8) (q : Nat) : Prop :=
  w.grownBy w' (some g) ∧ RdAt w' L B g l q

theorem Reads.overB {w w' : World} {B n : Nat} {A : Option Addr} {xs : List Value} (h : Reads w B 1 A n xs) (hb : Below w.heap.size w w') : Reads w' B 1 A n xs :=
  ⟨h.1, fun hn => by
    obtain ⟨ad, e, h1, _⟩ := h.2 hn
    obtain ⟨ad', e', _, h2⟩ := (h.over hb).2 hn
    rw [e] at e'
    injection e' with e'
    subst e'
    exact ⟨ad, e, h1, h2⟩⟩
theorem RdAt.over {w w' : World} {L B g : Nat} {l : List UInt8} {p : Nat} (h : RdAt w L B g l p) (hb : Below w.heap.size w w') : RdAt w' L B g l p := by
  obtain ⟨hp, hg, A, c, h1, h2, h3, h4, h5⟩ := h
  exact ⟨hp, hg, A, c, h1, h2, h3, h4.below hb h4.lt, h5.overB hb⟩
theorem RdAt.here {w : World} {L B g : Nat} {l : List UInt8} {p : Nat} (h : RdAt w L B g l p) : RdAt w L w.heap.size g l p := by
  obtain ⟨hp, hg, A, c, h1, h2, h3, h4, h5⟩ := h
  exact ⟨hp, ⟨hg.1, h4.lt⟩, A, c, h1, h2, h3, h4, h5.here⟩
theorem RdTo.stay {w w' : World} {L B g : Nat} {l : List UInt8} {p : Nat} (h : RdAt w L B g l p) (hb : Below w.heap.size w w') : RdTo w w' L B g l p :=
  ⟨only_of_below hb _, h.over hb⟩
theorem RdTo.move {w w1 : World} {L B g : Nat} {l : List UInt8} {p q : Nat} (h : RdAt w L B g l p) (hq : q ≤ l.length) (hb : Below w.heap.size w w1) : RdTo w (w1.setCell ⟨g, 1, none⟩ (.int .i64 (q : Int))) L B g l q := by
  refine ⟨only_setCell (only_of_below hb _) (.inl rfl) _, ?_⟩
  obtain ⟨hp, hg, A, c, h1, h2, h3, h4, h5⟩ := h.over hb
  refine ⟨hq, hg, A, c, h1, h2, h3, by simpa using h4.set_ 1 (.int .i64 (q : Int)), h5.1, fun hn => ?_⟩
  obtain ⟨ad, e, hb', hc⟩ := h5.2 hn
  refine ⟨ad, e, hb', fun j u hu => ?_⟩
  rw [World.cell?_setCell_other _ _ _ _ (fun e' => (h3 ad e).1 (by have := congrArg Addr.block e'; rw [block_of_add] at this; exact this.symm))]
  exact hc j u hu

theorem RdTo.on {w w1 w2 : World} {L B g : Nat} {l : List UInt8} {q : Nat} (h : RdTo w w1 L B g l q) (hb : Below w1.heap.size w1 w2) : RdTo w w2 L B g l q :=
  ⟨h.1.trans (only_of_below hb _), h.2.over hb⟩

/-- A reader stays where only another block below it has turned. -/
theorem RdAt.grown {w w' : World} {L B g r : Nat} {l : List UInt8} {p : Nat} (h : RdAt w L B g l p) (hg : w.grownBy w' (some r)) (hr : r < L) (hB : B ≤ w.heap.size) : RdAt w' L B g l p := by
  obtain ⟨hp, hgb, A, c, h1, h2, h3, h4, h5⟩ := h
  refine ⟨hp, hgb, A, c, h1, h2, h3, h4.grown hg (fun e => by injection e with e; omega), h5.1, fun hn => ?_⟩
  obtain ⟨ad, e, hb, hc⟩ := h5.2 hn
  refine ⟨ad, e, hb, fun j u hu => ?_⟩
  have := (h3 ad e).2
  exact (World.cell?_of_block (hg.block _ (by rw [block_of_add]; omega) (fun e' => by injection e' with e'; rw [block_of_add] at e'; omega))).trans (hc j u hu)
theorem own_grown {w w' : World} {base r : Nat} {e : TypeId} {size n : Nat} {v : Value} {xs : List Value} (h : w.ownsRow base e size v n xs) (hg : w.grownBy w' (some r)) (hr : r < base) : w'.ownsRow base e size v n xs := by
  refine ⟨h.1, ?_⟩
  rcases h.2 with h0 | ⟨g, cap, cur, h1, h2, h3, h4⟩
  · exact .inl h0
  · have hblk : Blk w g e cur := h3
    exact .inr ⟨g, cap, cur, h1, h2, hblk.grown hg (fun e => by injection e with e; omega), h4⟩

/-- What Int(width) of a reader at p answers, and where it stands then. -/
def mRdInt (l : List UInt8) (p : Nat) (n : Int) : Int × Int × Nat :=
  if ¬ (1 ≤ n ∧ n ≤ 8) then (0, 1, p)
  else if l.length - p < n.toNat then (0, 3, p)
  else if (mInt ((l.drop p).take n.toNat)).2 = 0 then ((mInt ((l.drop p).take n.toNat)).1, 0, p + n.toNat)
  else (0, (mInt ((l.drop p).take n.toNat)).2, p)

theorem rdInt_width (n : Int) (w : World) (r : Option Addr) (hn : ¬ (1 ≤ n ∧ n ≤ 8)) :
    Calls Try.prog 24 #[.pointer r, .int .i64 n] w fun e w' => e = .returned (.tuple #[.int .i64 0, .int .i64 1]) ∧ w = w' := by
  go_enter Try.func24, Try.ntmps24
  go_wp2_with (go_at_call 27; refine (isWidth_no _ _ hn).mono ?_; rintro e w' ⟨rfl, rfl⟩)
  go_ret2
  exact ⟨rfl, rfl⟩

theorem rdInt_nil (n : Int) (w : World) :
    Calls Try.prog 24 #[.pointer none, .int .i64 n] w fun e w' => e = .returned (.tuple #[.int .i64 0, .int .i64 1]) ∧ w = w' := by
  by_cases hn : 1 ≤ n ∧ n ≤ 8
  · go_enter Try.func24, Try.ntmps24
    go_wp2_with (first | (go_at_call 27; refine (isWidth_yes _ _ hn.1 hn.2).mono ?_; rintro e w' ⟨rfl, rfl⟩) | (go_at_call 29; refine (ahead_nil _ _).mono ?_; rintro e w' ⟨rfl, rfl⟩))
    go_ret2
    exact ⟨rfl, rfl⟩
  · exact rdInt_width n w none hn

theorem rdInt_short (n : Nat) (w : World) (L B g : Nat) (l : List UInt8) (p : Nat) (h1 : 1 ≤ n) (h8 : n ≤ 8) (h : RdAt w L B g l p) (hn : l.length - p < n) :
    Calls Try.prog 24 #[.pointer (some ⟨g, 0, none⟩), .int .i64 n] w fun e w' => e = .returned (.tuple #[.int .i64 0, .int .i64 3]) ∧ Below w.heap.size w w' := by
  go_enter Try.func24, Try.ntmps24
  go_wp2_with (first | (go_at_call 27; refine (isWidth_yes _ _ (by omega) (by omega)).mono ?_; rintro e w' ⟨rfl, rfl⟩) | (go_at_call 29; refine (ahead_short _ _ _ _ _ _ _ h hn).mono ?_; rintro e w' ⟨rfl, hb1⟩))
  go_ret2
  exact ⟨rfl, hb1⟩

end Go.Proofs.Ytklpljkjknncgaa
