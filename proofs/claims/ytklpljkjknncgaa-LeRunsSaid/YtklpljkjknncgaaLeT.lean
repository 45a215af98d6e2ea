/- Contract of octavolaw01.one for a reader's Zeros: it agrees, and says where the reader stands. Conditions: the reader holds the list that is named, of at most 2^47 - 4096 bytes, and the slice reads as it. -/
import Derived.Test.YtklpljkjknncgaaLeS
namespace Go.Proofs.Ytklpljkjknncgaa
open Go.RowKit

set_option maxRecDepth 100000 in
set_option maxHeartbeats 800000 in
/-- Any other kind, refused. -/
theorem one_zero_no (kd n : Int) (A : Option Addr) (c : Nat) (w : World) (L B g : Nat) (l : List UInt8) (p : Nat) (hk0 : (kd == 0) = false) (hk1 : (kd == 1) = false) (h : RdAt w L B g l p) (hl : l.length ≤ 140737488351232)
    (hn : n < 0 ∨ (0 ≤ n ∧ (l.length : Int) - p < n)) :
    Calls Try.prog 21 #[.pointer (some ⟨g, 0, none⟩), .slice A l.length c, .int .i64 p, .agg #[.int .u8 kd, .int .i64 n]] w (OneOk w L B g l p) := by
  have hp := h.1
  have key : (n < 0 ∧ mRdZeros l p n = (1, p)) ∨ (0 ≤ n ∧ (l.length : Int) - p < n ∧ mRdZeros l p n = (3, p)) := by
    rcases hn with h0 | ⟨h0, h1⟩
    · exact .inl ⟨h0, by unfold mRdZeros; rw [if_pos h0]⟩
    · exact .inr ⟨h0, h1, by unfold mRdZeros; rw [if_neg (by omega), if_pos (by omega)]⟩
  clear hn
  have HC := fun W (hW : RdAt W L B g l p) => Lib.hid (rdZeros_any n W L B g l p hW (by unfold maxLen; omega))
  rcases key with ⟨k1, hb⟩ | ⟨k1, k2, hb⟩
  · rw [hb] at HC
    clear hb
    have ha := h.over ((Below.refl _ w).alloc (Nat.le_refl _) (.cells #[.int .u8 kd, .int .i64 n] 45))
    have HR := HC _ ha
    clear HC ha
    go_enter Try.func21, Try.ntmps21
    go_wp2_with fail
    refine HR.out.mono ?_
    rintro e w1 ⟨rfl, hto⟩
    have HT := Lib.hid hto
    clear hto
    go_wp2
    go_loop [12, 20] (fun x i => x = .int .i64 1 ∧ i = .int .i64 0) (fun _ _ => 0)
    case atStart => exact ⟨rfl, rfl⟩
    case round =>
      obtain ⟨rfl, rfl⟩ := hrel
      go_wp2
      go_ret2
      exact ⟨rfl, HT.out.after ((Below.refl _ w).alloc (Nat.le_refl _) _)⟩
  · rw [hb] at HC
    clear hb
    have ha := h.over ((Below.refl _ w).alloc (Nat.le_refl _) (.cells #[.int .u8 kd, .int .i64 n] 45))
    have HR := HC _ ha
    clear HC ha
    go_enter Try.func21, Try.ntmps21
    go_wp2_with fail
    refine HR.out.mono ?_
    rintro e w1 ⟨rfl, hto⟩
    have HT := Lib.hid hto
    clear hto
    go_wp2
    go_loop [12, 20] (fun x i => x = .int .i64 3 ∧ i = .int .i64 0) (fun _ _ => 0)
    case atStart => exact ⟨rfl, rfl⟩
    case round =>
      obtain ⟨rfl, rfl⟩ := hrel
      go_wp2
      go_ret2
      exact ⟨rfl, HT.out.after ((Below.refl _ w).alloc (Nat.le_refl _) _)⟩

theorem mRdZeros_has (l : List UInt8) (p n : Nat) (hn : p + n ≤ l.length) : mRdZeros l p n = if ((l.drop p).take n).all (· == 0) then (0, p + n) else (4, p) := by
  unfold mRdZeros; rw [if_neg (by omega), if_neg (by simp only [Int.toNat_natCast]; omega)]; rfl

set_option maxRecDepth 100000 in
set_option maxHeartbeats 1600000 in
/-- Any other kind, all bytes 0. -/
theorem one_zero_all (kd : Int) (n : Nat) (A : Option Addr) (c : Nat) (w : World) (L B Bb g : Nat) (l : List UInt8) (p : Nat) (hk0 : (kd == 0) = false) (hk1 : (kd == 1) = false) (h : RdAt w L B g l p) (hl : l.length ≤ 140737488351232)
    (hr : Reads w Bb 1 A l.length (bv l)) (hBb : Bb ≤ L) (hL : L ≤ w.heap.size) (hn : p + n ≤ l.length) (hz : ∀ k, k < n → l[p + k]? = some 0) :
    Calls Try.prog 21 #[.pointer (some ⟨g, 0, none⟩), .slice A l.length c, .int .i64 p, .agg #[.int .u8 kd, .int .i64 n]] w (OneOk w L B g l (p + n)) := by
  have hLg := h.2.1.1
  have ha := h.over ((Below.refl _ w).alloc (Nat.le_refl _) (.cells #[.int .u8 kd, .int .i64 n] 45))
  have hC1 := rdZeros_any n _ L B g l p ha (by unfold maxLen; omega)
  have hra := hr.alloc (by omega) (.cells #[.int .u8 kd, .int .i64 n] 45)
  have hall : ((l.drop p).take n).all (· == 0) = true := by
    rw [List.all_eq_true]
    intro x hx
    obtain ⟨k, hk, rfl⟩ := List.mem_iff_getElem.1 hx
    have hkn : k < n := by simp at hk; omega
    have := hz k hkn
    rw [List.getElem?_eq_getElem (by omega)] at this
    injection this with this
    simp [this]
  rw [mRdZeros_has l p n hn, if_pos hall] at hC1
  have HC1 := Lib.hid hC1
  have HZ := Lib.hid hz
  have hpn2 : ((p + n : Nat) : Int) = (p : Int) + (n : Int) := by omega
  have HPN2 := Lib.hid hpn2
  clear hC1 hz hall ha hr hpn2
  go_enter Try.func21, Try.ntmps21
  go_wp2_with fail
  refine HC1.out.mono ?_
  rintro e w1 ⟨rfl, hto⟩
  have hr1 := hra.grown hto.1 (by simp; omega) (fun k hk => by injection hk with hk; omega)
  have HT := Lib.hid (hto.after ((Below.refl _ w).alloc (Nat.le_refl _) (.cells #[.int .u8 kd, .int .i64 n] 45)))
  have HR1 := Lib.hid hr1
  clear HC1 hto hra hr1
  go_wp2
  go_loop [12, 20] (fun x i => ∃ k : Nat, k ≤ n ∧ i = .int .i64 k ∧ x = .int .i64 0) (fun _ i => n - (intOf i).toNat)
  case atStart => exact ⟨0, Nat.zero_le _, rfl, rfl⟩
  case round =>
    obtain ⟨k, hk, rfl, rfl⟩ := hrel
    by_cases hlt : k < n
    · obtain ⟨b, off, rfl, _, hc⟩ := HR1.out.form (by omega)
      have hzk := HZ.out k hlt
      have hx := hc (p + k) (.int .u8 0) (by simp [bv, hzk])
      have hi : (p : Int) + (k : Int) < (l.length : Int) := by omega
      clear hc hzk
      go_wp2
      go_round
      case rel => exact ⟨k + 1, by omega, by go_num, rfl⟩
      case measure => simp [intOf]; omega
    · go_wp2
      go_ret2
      exact ⟨by rw [HPN2.out]; rfl, HT.out⟩

set_option maxRecDepth 100000 in
set_option maxHeartbeats 1600000 in
/-- Any other kind, one of the bytes not 0. -/
theorem one_zero_not (kd : Int) (n : Nat) (A : Option Addr) (c : Nat) (w : World) (L B Bb g : Nat) (l : List UInt8) (p : Nat) (hk0 : (kd == 0) = false) (hk1 : (kd == 1) = false) (h : RdAt w L B g l p) (hl : l.length ≤ 140737488351232)
    (hr : Reads w Bb 1 A l.length (bv l)) (hBb : Bb ≤ L) (hL : L ≤ w.heap.size) (hn : p + n ≤ l.length) (hz : ¬ ∀ k, k < n → l[p + k]? = some 0) :
    Calls Try.prog 21 #[.pointer (some ⟨g, 0, none⟩), .slice A l.length c, .int .i64 p, .agg #[.int .u8 kd, .int .i64 n]] w (OneOk w L B g l p) := by
  have hLg := h.2.1.1
  have ha := h.over ((Below.refl _ w).alloc (Nat.le_refl _) (.cells #[.int .u8 kd, .int .i64 n] 45))
  have hC1 := rdZeros_any n _ L B g l p ha (by unfold maxLen; omega)
  have hra := hr.alloc (by omega) (.cells #[.int .u8 kd, .int .i64 n] 45)
  have hall : ¬ ((l.drop p).take n).all (· == 0) = true := by
    intro ht
    apply hz
    intro k hk
    rw [List.all_eq_true] at ht
    have hk2 : k < ((l.drop p).take n).length := by simp; omega
    have := ht _ (List.getElem_mem hk2)
    simp at this
    rw [List.getElem?_eq_getElem (by omega), this]
  rw [mRdZeros_has l p n hn, if_neg hall] at hC1
  have HC1 := Lib.hid hC1
  have HZ := Lib.hid hz
  clear hC1 hz hall ha hr
  go_enter Try.func21, Try.ntmps21
  go_wp2_with fail
  refine HC1.out.mono ?_
  rintro e w1 ⟨rfl, hto⟩
  have hr1 := hra.grown hto.1 (by simp; omega) (fun k hk => by injection hk with hk; omega)
  have HT := Lib.hid (hto.after ((Below.refl _ w).alloc (Nat.le_refl _) (.cells #[.int .u8 kd, .int .i64 n] 45)))
  have HR1 := Lib.hid hr1
  clear HC1 hto hra hr1
  go_wp2
  go_loop [12, 20] (fun x i => ∃ k : Nat, k ≤ n ∧ i = .int .i64 k ∧ Hid ((x = .int .i64 0 ∧ ∀ j, j < k → l[p + j]? = some 0) ∨ x = .int .i64 4)) (fun _ i => n - (intOf i).toNat)
  case atStart => exact ⟨0, Nat.zero_le _, rfl, .inl ⟨rfl, fun j hj => absurd hj (by omega)⟩⟩
  case round =>
    obtain ⟨k, hk, rfl, hor⟩ := hrel
    rcases hor.out with ⟨rfl, hpre⟩ | rfl
    · have hlt : k < n := by
        rcases Nat.lt_or_ge k n with h | h
        · exact h
        · exact absurd (fun j hj => hpre j (by omega)) HZ.out
      have HP := Lib.hid hpre
      clear hpre hor
      obtain ⟨b, off, rfl, _, hc⟩ := HR1.out.form (by omega)
      have hx := hc (p + k) _ (bv_get l (p + k) (by omega))
      have hi : (p : Int) + (k : Int) < (l.length : Int) := by omega
      clear hc
      by_cases hxz : l[p + k]'(by omega) = 0
      · have hd : (((l[p + k]'(by omega)).toNat : Int) != 0) = false := by rw [bne_eq_false_iff_eq, hxz]; rfl
        have HP2 : Hid (∀ j, j < k + 1 → l[p + j]? = some 0) := fun j hj => by
          by_cases e : j = k
          · subst e
            rw [List.getElem?_eq_getElem (by omega), hxz]
          · exact HP.out j (by omega)
        clear hxz
        generalize ((l[p + k]'(by omega)).toNat : Int) = x at hx hd
        go_wp2
        go_round
        case rel => exact ⟨k + 1, by omega, by go_num, .inl ⟨rfl, HP2.out⟩⟩
        case measure => simp [intOf]; omega
      · have hd : (((l[p + k]'(by omega)).toNat : Int) != 0) = true := by
          rw [bne_iff_ne]
          intro e
          exact hxz (UInt8.toNat_inj.1 (by simpa using e))
        clear hxz
        generalize ((l[p + k]'(by omega)).toNat : Int) = x at hx hd
        go_wp2
        go_round
        case rel => exact ⟨k + 1, by omega, by go_num, .inr rfl⟩
        case measure => simp [intOf]; omega
    · clear hor
      go_wp2
      go_ret2
      exact ⟨rfl, HT.out⟩
end Go.Proofs.Ytklpljkjknncgaa
