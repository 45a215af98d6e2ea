/- Contract of octavolaw01.one for a reader's Take: it agrees, and says where the reader stands. Conditions: the reader holds the list that is named, of at most 2^47 - 4096 bytes, and the slice reads as it. -/
import Derived.Test.YtklpljkjknncgaaLeR
namespace Go.Proofs.Ytklpljkjknncgaa
open Go.RowKit

theorem RdTo.wrote {w w1 w2 : World} {L B g r : Nat} {l : List UInt8} {q : Nat} (h : RdTo w w1 L B g l q) (hg : w1.grownBy w2 (some r)) (hr : w.heap.size ≤ r) (hB : B ≤ w.heap.size) : RdTo w w2 L B g l q := by
  obtain ⟨h1, h2⟩ := h
  refine ⟨⟨hg.os.trans h1.os, hg.tape.trans h1.tape, hg.output.trans h1.output, Nat.le_trans h1.size hg.size, fun i hi hne => ?_⟩, ?_⟩
  · exact (hg.block i (Nat.lt_of_lt_of_le hi h1.size) (fun e => by injection e with e; omega)).trans (h1.block i hi hne)
  · exact h2.below ((Below.refl B w1).grown hg (Nat.le_trans hB h1.size) (fun k hk => by injection hk with hk; omega))

/-- A block of bytes, the first n of which are numbers. -/
def U8Row (w : World) (g n : Nat) : Prop := ∃ cs, Blk w g 5 cs ∧ ∀ j, j < n → ∃ x : Int, cs[j]? = some (.int .u8 x)
theorem U8Row.set {w : World} {g n : Nat} (h : U8Row w g n) (k : Nat) (x : Int) : U8Row (w.setCell ⟨g, k, none⟩ (.int .u8 x)) g n := by
  obtain ⟨cs, hb, hc⟩ := h
  refine ⟨_, hb.set_ k _, fun j hj => ?_⟩
  rw [Array.getElem?_setIfInBounds]
  by_cases e : k = j
  · subst e
    obtain ⟨y, hy⟩ := hc k hj
    have hlt := (Array.getElem?_eq_some_iff.1 hy).1
    rw [if_pos rfl, if_pos hlt]
    exact ⟨x, rfl⟩
  · rw [if_neg e]
    exact hc j hj
theorem U8Row.of_own {w : World} {base g n cap : Nat} {l : List UInt8} (h : w.ownsRow base 5 1 (.slice (some ⟨g, 0, none⟩) n cap) n (bv l)) : U8Row w g n := by
  rcases h.2 with ⟨h0, _⟩ | ⟨g', cap', cur, hv, _, hh, _, _, hcs, htk⟩
  · cases h0
  · injection hv with hv
    injection hv with hv
    injection hv with hv
    subst hv
    refine ⟨cur, hh, fun j hj => ?_⟩
    have hl := h.1
    have hj2 : j < (bv l).length := by omega
    have hjl : j < l.length := by rw [bv_length] at hj2; exact hj2
    have h1 := bv_get l j hjl
    rw [← htk, List.getElem?_take] at h1
    by_cases hj' : j < n * 1
    · rw [if_pos hj'] at h1
      exact ⟨_, by simpa using h1⟩
    · omega

set_option maxRecDepth 100000 in
set_option maxHeartbeats 800000 in
/-- Kind 1, refused. -/
theorem one_take_no (n : Int) (A : Option Addr) (c : Nat) (w : World) (L B g : Nat) (l : List UInt8) (p : Nat) (h : RdAt w L B g l p) (hl : l.length ≤ 140737488351232)
    (hn : n < 0 ∨ (0 ≤ n ∧ (l.length : Int) - p < n)) :
    Calls Try.prog 21 #[.pointer (some ⟨g, 0, none⟩), .slice A l.length c, .int .i64 p, .agg #[.int .u8 1, .int .i64 n]] w (OneOk w L B g l p) := by
  have hp := h.1
  have key : (n < 0 ∧ mRdTake l p n = ([], 1, p)) ∨ (0 ≤ n ∧ (l.length : Int) - p < n ∧ mRdTake l p n = ([], 3, p)) := by
    rcases hn with h0 | ⟨h0, h1⟩
    · exact .inl ⟨h0, by unfold mRdTake; rw [if_pos h0]⟩
    · exact .inr ⟨h0, h1, by unfold mRdTake; rw [if_neg (by omega), if_pos (by omega)]⟩
  clear hn
  have HC := fun W (hW : RdAt W L B g l p) => Lib.hid (rdTake_any n W L B g l p hW (by omega))
  rcases key with ⟨k1, hb⟩ | ⟨k1, k2, hb⟩
  all_goals
    rw [hb] at HC
    clear hb
    have ha := h.over ((Below.refl _ w).alloc (Nat.le_refl _) (.cells #[.int .u8 1, .int .i64 n] 45))
    have HR := HC _ ha
    clear HC ha
    go_enter Try.func21, Try.ntmps21
    go_wp2_with fail
    refine HR.out.mono ?_
    rintro e w1 ⟨v1, rfl, ho1, hto⟩
    obtain ⟨A1, c1, rfl, _, _, _, _⟩ := own_form ho1
    have HT := Lib.hid hto
    clear hto ho1
    go_wp2
    go_loop [18] (fun i => i = .int .i64 0) (fun _ => 0)
    case atStart => rfl
    case round =>
      subst hrel
      go_wp2
      go_ret2
      exact ⟨rfl, HT.out.after ((Below.refl _ w).alloc (Nat.le_refl _) _)⟩

theorem mRdTake_has (l : List UInt8) (p n : Nat) (hn : p + n ≤ l.length) : mRdTake l p n = ((l.drop p).take n, 0, p + n) := by
  unfold mRdTake; rw [if_neg (by omega), if_neg (by simp only [Int.toNat_natCast]; omega)]; rfl

/-- What a cut's address is. -/
def cutAt (A : Option Addr) (c p : Nat) : Option Addr := if c = p then A else A.map fun x => x.add p

theorem cut_reads' {w : World} {B c p n : Nat} {A : Option Addr} {l : List UInt8} (h : Reads w B 1 A l.length (bv l)) (hc : l.length ≤ c) (hn : p + n ≤ l.length) :
    Reads w B 1 (cutAt A c p) n (bv ((l.drop p).take n)) := by
  have := (h.cut (k := p) (cap := c) (by omega) hc).take (n := n) (by omega)
  rw [← bv_take_drop, Nat.mul_one] at this
  exact this

theorem own_at {w : World} {base n : Nat} {l : List UInt8} {v : Value} (h : w.ownsRow base 5 1 v n (bv l)) :
    ∃ gs A1 c1, v = .slice A1 n c1 ∧ base ≤ gs ∧ (0 < n → A1 = some ⟨gs, 0, none⟩) ∧ (0 < n → U8Row w gs n) := by
  obtain ⟨A1, c1, rfl, _, _, _, hA⟩ := own_form h
  by_cases h0 : 0 < n
  · obtain ⟨g', cap, hv, hb, _⟩ := h.form h0
    injection hv with hv _ hc
    subst hv
    exact ⟨g', _, c1, rfl, hb, fun _ => rfl, fun _ => U8Row.of_own h⟩
  · exact ⟨base, A1, c1, rfl, Nat.le_refl _, fun h => absurd h h0, fun h => absurd h h0⟩

set_option maxRecDepth 100000 in
set_option maxHeartbeats 1600000 in
theorem one_take_tail (n : Nat) (A : Option Addr) (c : Nat) (w : World) (L B Bb g : Nat) (l : List UInt8) (p : Nat) (s : List UInt8) (X : Option Addr) (cx : Nat) (hl : l.length ≤ 140737488351232) (hlc : l.length ≤ c) (hcm : c ≤ 2 ^ 63 - 1)
    (hBb : Bb ≤ L) (hL : L ≤ w.heap.size) (hB : B ≤ w.heap.size) (hn : p + n ≤ l.length) (hLg : L ≤ g)
    (HC1 : Hid (Calls Try.prog 25 #[.pointer (some ⟨g, 0, none⟩), .int .i64 n] (w.alloc (.cells #[.int .u8 1, .int .i64 n] 45)) (TakeOk (w.alloc (.cells #[.int .u8 1, .int .i64 n] 45)) L B g l s 0 (p + n))))
    (hra : Reads (w.alloc (.cells #[.int .u8 1, .int .i64 n] 45)) Bb 1 A l.length (bv l))
    (HLEN : Hid (s.length = n)) (HPN : Hid (p + n - p = n)) (HPN2 : Hid (((p + n : Nat) : Int) = (p : Int) + (n : Int)))
    (HCUT : ∀ W, Reads W Bb 1 A l.length (bv l) → Hid (Reads W Bb 1 X n (bv s)))
    (HI : ∀ W B1 A1 c1, Reads W B1 1 A1 n (bv s) → Reads W Bb 1 X n (bv s) → Hid (Calls Try.prog 14 #[.slice A1 n c1, .slice X n cx] W fun e w' => e = .returned (.bool true) ∧ Below W.heap.size W w'))
    (hX : (c = p ∧ X = A ∧ cx = 0) ∨ (c ≠ p ∧ X = A.map (fun x => x.add p) ∧ cx = c - p)) :
    Calls Try.prog 21 #[.pointer (some ⟨g, 0, none⟩), .slice A l.length c, .int .i64 p, .agg #[.int .u8 1, .int .i64 n]] w (OneOk w L B g l (p + n)) := by
  rcases hX with ⟨rfl, rfl, rfl⟩ | ⟨hcp, rfl, rfl⟩
  all_goals
    go_enter Try.func21, Try.ntmps21
    go_wp2_with fail
    refine HC1.out.mono ?_
    rintro e w1 ⟨v1, rfl, ho1, hto⟩
    rw [HLEN.out] at ho1
    have hr1 := own_form ho1
    obtain ⟨gs, A1, c1, rfl, hgs, hA1, hU⟩ := own_at ho1
    obtain ⟨A1', c1', hv, _, _, hr1, _⟩ := hr1
    injection hv with hv _ hv'
    subst hv
    subst hv'
    have hr2 := hra.grown hto.1 (by simp; omega) (fun k hk => by injection hk with hk; omega)
    have HX := HI _ _ _ c1 hr1 (HCUT _ hr2).out
    have HT := Lib.hid hto
    have HA1 := Lib.hid hA1
    have HU := Lib.hid hU
    have hgs' : w.heap.size ≤ gs := by simp at hgs; omega
    clear HI HCUT hto hra hr2 hr1 HC1 hgs hU hA1 ho1
    go_wp2_with fail
    rw [HPN.out]
    refine HX.out.mono ?_
    rintro e w2 ⟨rfl, hb2⟩
    have HT2 := Lib.hid ((HT.out.on hb2).after ((Below.refl _ w).alloc (Nat.le_refl _) (.cells #[.int .u8 1, .int .i64 n] 45)))
    have HU2 : Hid (0 < n → U8Row w2 gs n) := fun h0 => by
      obtain ⟨cs, hb, hc⟩ := HU.out h0
      exact ⟨cs, hb.below hb2 hb.lt, hc⟩
    clear HX HT HU hb2
    go_wp2
    go_loopw [18] (fun i wr => ∃ k : Nat, k ≤ n ∧ i = .int .i64 k ∧ Hid (0 < n → U8Row wr gs n) ∧ w2.grownBy wr (some gs)) (fun i _ => n - (intOf i).toNat)
    case atStart => exact ⟨0, Nat.zero_le _, rfl, HU2, World.grownBy.refl _ _⟩
    case round =>
      obtain ⟨k, hk, rfl, hU, hgr⟩ := hrel
      have HG := Lib.hid hgr
      clear hgr
      by_cases hlt : k < n
      · try (exfalso; omega)
        all_goals
          have hA := HA1.out (by omega)
          subst hA
          obtain ⟨cs, hbk, hcs⟩ := hU.out (by omega)
          obtain ⟨x, hx⟩ := hcs k hlt
          have hc := (hbk.cell k).trans hx
          have hf := hbk.frozen k
          have hi : (k : Int) < (n : Int) := by omega
          have HU3 := fun y => Lib.hid ((hU.out (by omega)).set k y)
          clear hbk hcs hx hU
          go_wp2
          go_roundw
          case rel => exact ⟨k + 1, by omega, by go_num, fun _ => (HU3 _).out, only_setCell HG.out (.inl rfl) _⟩
          case measure => simp [intOf]; omega
      · have HF := Lib.hid (HT2.out.wrote HG.out hgs' hB)
        clear hU HU2
        go_wp2
        go_ret2
        exact ⟨by rw [HPN2.out]; rfl, HF.out⟩

set_option maxRecDepth 100000 in
set_option maxHeartbeats 1600000 in
/-- Kind 1, with enough bytes. -/
theorem one_take_has (n : Nat) (A : Option Addr) (c : Nat) (w : World) (L B Bb g : Nat) (l : List UInt8) (p : Nat) (h : RdAt w L B g l p) (hl : l.length ≤ 140737488351232) (hlc : l.length ≤ c) (hcm : c ≤ maxLen)
    (hr : Reads w Bb 1 A l.length (bv l)) (hBb : Bb ≤ L) (hL : L ≤ w.heap.size) (hB : B ≤ w.heap.size) (hn : p + n ≤ l.length) :
    Calls Try.prog 21 #[.pointer (some ⟨g, 0, none⟩), .slice A l.length c, .int .i64 p, .agg #[.int .u8 1, .int .i64 n]] w (OneOk w L B g l (p + n)) := by
  have hLg := h.2.1.1
  unfold maxLen at hcm
  have hlen : ((l.drop p).take n).length = n := by simp; omega
  have ha := h.over ((Below.refl _ w).alloc (Nat.le_refl _) (.cells #[.int .u8 1, .int .i64 n] 45))
  have hC1 := rdTake_any n _ L B g l p ha (by omega)
  have hra := hr.alloc (by omega) (.cells #[.int .u8 1, .int .i64 n] 45)
  rw [mRdTake_has l p n hn] at hC1
  have HCUT := fun W (hW : Reads W Bb 1 A l.length (bv l)) => Lib.hid (cut_reads' (p := p) (n := n) hW hlc hn)
  have hX : Hid (cutAt A c p = if c = p then A else A.map fun x => x.add p) := rfl
  generalize (l.drop p).take n = s at *
  have HI := fun W B1 A1 c1 (h1 : Reads W B1 1 A1 n (bv s)) (hW : Reads W Bb 1 (cutAt A c p) n (bv s)) => Lib.hid (same_any s s A1 (cutAt A c p) B1 Bb c1 (c - p) W (by unfold maxLen; omega) (by unfold maxLen; omega) (by rw [hlen]; exact h1) (by rw [hlen]; exact hW))
  rw [hlen, show decide (s = s) = true from by simp] at HI
  generalize cutAt A c p = X at *
  have hpn : p + n - p = n := by omega
  have hpn2 : ((p + n : Nat) : Int) = (p : Int) + (n : Int) := by omega
  have HC1 := Lib.hid hC1
  have HLEN := Lib.hid hlen
  have HPN := Lib.hid hpn
  have HPN2 := Lib.hid hpn2
  clear hC1 hlen ha hpn hpn2
  by_cases hcp : c = p
  · rw [if_pos hcp] at hX
    have hX' := hX.out
    subst hX'
    clear hX
    subst hcp
    rw [Nat.sub_self] at HI
    exact one_take_tail n _ c w L B Bb g l c s _ 0 hl hlc hcm hBb hL hB hn hLg HC1 hra HLEN HPN HPN2 HCUT HI (.inl ⟨rfl, rfl, rfl⟩)
  · rw [if_neg hcp] at hX
    have hX' := hX.out
    subst hX'
    exact one_take_tail n _ c w L B Bb g l p s _ (c - p) hl hlc hcm hBb hL hB hn hLg HC1 hra HLEN HPN HPN2 HCUT HI (.inr ⟨hcp, rfl, rfl⟩)
end Go.Proofs.Ytklpljkjknncgaa
