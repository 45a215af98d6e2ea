/- Contract of octavolaw01.one for a reader's Int: it agrees, and says where the reader stands. Conditions: the reader holds the list that is named, of at most 2^47 - 4096 bytes, and the slice reads as it. -/
import Derived.Test.YtklpljkjknncgaaLeH
import Derived.Test.YtklpljkjknncgaaLeD
import Derived.Test.YtklpljkjknncgaaLeM
namespace Go.Proofs.Ytklpljkjknncgaa
open Go.RowKit

/-- What one call leaves: it agrees, and says where the reader stands. -/
def OneOk (w : World) (L B g : Nat) (l : List UInt8) (q : Nat) (e : Ending) (w' : World) : Prop :=
  e = .returned (.tuple #[.bool true, .int .i64 (q : Int)]) ∧ RdTo w w' L B g l q

theorem RdTo.after {w w1 w2 : World} {L B g : Nat} {l : List UInt8} {q : Nat} (h : RdTo w1 w2 L B g l q) (hb : Below w.heap.size w w1) : RdTo w w2 L B g l q :=
  ⟨(only_of_below hb _).trans h.1, h.2⟩

set_option maxRecDepth 100000 in
set_option maxHeartbeats 800000 in
/-- Kind 0, refused ahead of the bytes. -/
theorem one_int_no (n : Int) (A : Option Addr) (c : Nat) (w : World) (L B g : Nat) (l : List UInt8) (p : Nat) (h : RdAt w L B g l p) (hl : l.length ≤ 140737488351232)
    (hn : ¬ (1 ≤ n ∧ n ≤ 8) ∨ (1 ≤ n ∧ n ≤ 8 ∧ (l.length : Int) - p < n)) :
    Calls Try.prog 21 #[.pointer (some ⟨g, 0, none⟩), .slice A l.length c, .int .i64 p, .agg #[.int .u8 0, .int .i64 n]] w (OneOk w L B g l p) := by
  have hp := h.1
  have key : (n < 0 ∧ mRdInt l p n = (0, 1, p)) ∨ (0 ≤ n ∧ n < 1 ∧ mRdInt l p n = (0, 1, p)) ∨ (1 ≤ n ∧ 8 < n ∧ mRdInt l p n = (0, 1, p)) ∨ (1 ≤ n ∧ n ≤ 8 ∧ (l.length : Int) - p < n ∧ mRdInt l p n = (0, 3, p)) := by
    by_cases h8 : 1 ≤ n ∧ n ≤ 8
    · refine .inr (.inr (.inr ⟨h8.1, h8.2, by omega, ?_⟩))
      unfold mRdInt
      rw [if_neg (by omega), if_pos (by omega)]
    · have hb : mRdInt l p n = (0, 1, p) := by unfold mRdInt; rw [if_pos h8]
      by_cases h0 : n < 0
      · exact .inl ⟨h0, hb⟩
      · by_cases h1 : n < 1
        · exact .inr (.inl ⟨by omega, h1, hb⟩)
        · exact .inr (.inr (.inl ⟨by omega, by omega, hb⟩))
  clear hn
  have HC := fun W (hW : RdAt W L B g l p) => Lib.hid (rdInt_any n W L B g l p hW (by unfold maxLen; omega))
  rcases key with ⟨k1, hb⟩ | ⟨k1, k2, hb⟩ | ⟨k1, k2, hb⟩ | ⟨k1, k2, k3, hb⟩
  all_goals
    rw [hb] at HC
    clear hb
    have ha := h.over ((Below.refl _ w).alloc (Nat.le_refl _) (.cells #[.int .u8 0, .int .i64 n] 45))
    have HR := HC _ ha
    clear HC ha
    go_enter Try.func21, Try.ntmps21
    go_wp2_with fail
    refine HR.out.mono ?_
    rintro e w1 ⟨rfl, hto⟩
    have HT := Lib.hid hto
    clear hto
    have hne : ((0 : Int) != 0) = false := by simp
    go_wp2
    go_ret2
    exact ⟨rfl, HT.out.after ((Below.refl _ w).alloc (Nat.le_refl _) _)⟩

theorem mRdInt_has (l : List UInt8) (p n : Nat) (h1 : 1 ≤ n) (h8 : n ≤ 8) (hn : p + n ≤ l.length) :
    mRdInt l p n = ((mInt ((l.drop p).take n)).1, (mInt ((l.drop p).take n)).2, if (mInt ((l.drop p).take n)).2 = 0 then p + n else p) := by
  unfold mRdInt
  rw [if_neg (by omega), if_neg (by simp only [Int.toNat_natCast]; omega)]
  simp only [Int.toNat_natCast]
  by_cases he : (mInt ((l.drop p).take n)).2 = 0
  · rw [if_pos he, if_pos he, he]
  · rw [if_neg he, if_neg he, mInt_zero he]

/-- A cut of a slice of bytes. -/
theorem cut_reads {w : World} {B c p n : Nat} {A : Option Addr} {l : List UInt8} (h : Reads w B 1 A l.length (bv l)) (hc : l.length ≤ c) (hn : p + n ≤ l.length) (hcp : c ≠ p) :
    Reads w B 1 (A.map fun x => x.add p) n (bv ((l.drop p).take n)) := by
  have := (h.cut (k := p) (cap := c) (by omega) hc).take (n := n) (by omega)
  rw [← bv_take_drop, if_neg hcp, Nat.mul_one] at this
  exact this

set_option maxRecDepth 100000 in
set_option maxHeartbeats 800000 in
/-- Kind 0, with enough bytes. -/
theorem one_int_has (n : Nat) (A : Option Addr) (c : Nat) (w : World) (L B Bb g : Nat) (l : List UInt8) (p : Nat) (h : RdAt w L B g l p) (hl : l.length ≤ 140737488351232) (hlc : l.length ≤ c) (hcm : c ≤ maxLen)
    (hr : Reads w Bb 1 A l.length (bv l)) (hBb : Bb ≤ L) (hL : L ≤ w.heap.size) (h1 : 1 ≤ n) (h8 : n ≤ 8) (hn : p + n ≤ l.length) :
    Calls Try.prog 21 #[.pointer (some ⟨g, 0, none⟩), .slice A l.length c, .int .i64 p, .agg #[.int .u8 0, .int .i64 n]] w (OneOk w L B g l (mRdInt l p n).2.2) := by
  have hLg := h.2.1.1
  unfold maxLen at hcm
  have hlen : ((l.drop p).take n).length = n := by simp; omega
  have ha := h.over ((Below.refl _ w).alloc (Nat.le_refl _) (.cells #[.int .u8 0, .int .i64 n] 45))
  have hC1 := rdInt_any n _ L B g l p ha (by unfold maxLen; omega)
  have hra := hr.alloc (by omega) (.cells #[.int .u8 0, .int .i64 n] 45)
  rw [mRdInt_has l p n h1 h8 hn] at hC1 ⊢
  have hz := mInt_err ((l.drop p).take n) (by omega) (by omega)
  have hca : c ≠ p := by omega
  have HCUT := fun W (hW : Reads W Bb 1 A l.length (bv l)) => Lib.hid (cut_reads (p := p) (n := n) hW hlc hn hca)
  generalize (l.drop p).take n = s at *
  have HI := fun W (hW : Reads W Bb 1 (A.map fun x => x.add p) n (bv s)) => Lib.hid (refInt_any s (A.map fun x => x.add p) Bb (c - p) W (by unfold maxLen; omega) (by rw [hlen]; exact hW))
  rw [hlen] at HI
  generalize (mInt s).1 = x at *
  generalize (mInt s).2 = y at *
  obtain ⟨q, hq⟩ : ∃ q, q = if y = 0 then p + n else p := ⟨_, rfl⟩
  rw [← hq] at hC1 ⊢
  have hqq : (y = 0 ∧ q = p + n) ∨ (y = 2 ∧ q = p) := by
    rcases hz with h | h
    · exact .inl ⟨h, by rw [hq, if_pos h]⟩
    · exact .inr ⟨h, by rw [hq, if_neg (by omega)]⟩
  have HQ := Lib.hid hqq
  clear hq hqq hz
  have hpn : p + n - p = n := by omega
  have HC1 := Lib.hid hC1
  have HLEN := Lib.hid hlen
  have HPN := Lib.hid hpn
  clear hC1 hlen ha hpn
  go_enter Try.func21, Try.ntmps21
  go_wp2_with fail
  refine HC1.out.mono ?_
  rintro e w1 ⟨rfl, hto⟩
  have hr1 := hra.grown hto.1 (by simp; omega) (fun k hk => by injection hk with hk; omega)
  have HX := HI _ (HCUT _ hr1).out
  have HT := Lib.hid hto
  clear HI HCUT hto hra hr hr1
  go_wp2_with fail
  rw [HPN.out]
  refine HX.out.mono ?_
  rintro e w2 ⟨rfl, hb2⟩
  have HT2 := Lib.hid ((HT.out.on hb2).after ((Below.refl _ w).alloc (Nat.le_refl _) (.cells #[.int .u8 0, .int .i64 n] 45)))
  clear HX HT hb2 HC1
  rcases HQ.out with ⟨rfl, rfl⟩ | ⟨rfl, rfl⟩
  · have hpn : ((p + n : Nat) : Int) = (p : Int) + (n : Int) := by omega
    have HPN2 := Lib.hid hpn
    clear hpn
    go_wp2
    go_ret2
    exact ⟨by rw [HPN2.out]; rfl, HT2.out⟩
  · go_wp2
    go_ret2
    exact ⟨rfl, HT2.out⟩
end Go.Proofs.Ytklpljkjknncgaa
