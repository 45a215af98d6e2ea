/- Contracts of a Reader's Int, Take and Zeros: what each answers and where the reader stands then, for every argument. Conditions: the reader holds the list that is named, of at most 2^47 bytes (Take). -/
import Derived.Test.YtklpljkjknncgaaLeF
namespace Go.Proofs.Ytklpljkjknncgaa
open Go.RowKit

set_option maxHeartbeats 400000 in
theorem rdInt_ok (n : Nat) (w : World) (L B g : Nat) (l : List UInt8) (p : Nat) (h1 : 1 ≤ n) (h8 : n ≤ 8) (h : RdAt w L B g l p) (hn : n ≤ l.length - p) (hl : l.length ≤ maxLen) (he : (mInt ((l.drop p).take n)).2 = 0) :
    Calls Try.prog 24 #[.pointer (some ⟨g, 0, none⟩), .int .i64 n] w fun e w' => e = .returned (.tuple #[.int .i64 (mInt ((l.drop p).take n)).1, .int .i64 0]) ∧ RdTo w w' L B g l (p + n) := by
  have hlen : ((l.drop p).take n).length = n := by simp; have := h.1; omega
  have hb := h.1
  unfold maxLen at hl
  have HL := Lib.hid hlen
  have HE := Lib.hid he
  clear hlen he
  generalize hs : (l.drop p).take n = s at *
  have HS := Lib.hid hs
  clear hs
  go_enter Try.func24, Try.ntmps24
  go_wp2_with fail
  refine (isWidth_yes _ _ (by omega) (by omega)).mono ?_
  rintro e w' ⟨rfl, rfl⟩
  go_wp2_with fail
  refine (ahead_ok n w L B g l p h hn).mono ?_
  rintro e w1 ⟨A, c, hc, rfl, hAg, hr, hb1⟩
  rw [HS.out] at hr
  go_wp2_with fail
  have hcall := leInt_any s A B c w1 (by rw [HL.out]; unfold maxLen; omega) (by rw [HL.out]; exact hr)
  rw [HL.out, HE.out] at hcall
  refine hcall.mono ?_
  rintro e w' ⟨rfl, rfl⟩
  clear hcall
  obtain ⟨_, _, A0, c0, _, _, _, hblk, _⟩ := h.here.below hb1
  have k1 := hblk.cell 1
  have f1 := hblk.frozen 1
  simp at k1
  have hmv := Lib.hid (RdTo.move h (q := p + n) (by omega) hb1)
  have hsum : (p : Int) + (n : Int) ≤ 9223372036854775807 := by omega
  clear hblk
  go_wp2
  go_ret2
  exact ⟨rfl, hmv.out⟩

set_option maxHeartbeats 400000 in
theorem rdInt_bad (n : Nat) (w : World) (L B g : Nat) (l : List UInt8) (p : Nat) (h1 : 1 ≤ n) (h8 : n ≤ 8) (h : RdAt w L B g l p) (hn : n ≤ l.length - p) (he : (mInt ((l.drop p).take n)).2 = 2) :
    Calls Try.prog 24 #[.pointer (some ⟨g, 0, none⟩), .int .i64 n] w fun e w' => e = .returned (.tuple #[.int .i64 0, .int .i64 2]) ∧ Below w.heap.size w w' := by
  have hlen : ((l.drop p).take n).length = n := by simp; have := h.1; omega
  have hb := h.1
  have HL := Lib.hid hlen
  have HE := Lib.hid he
  clear hlen he
  generalize hs : (l.drop p).take n = s at *
  have HS := Lib.hid hs
  clear hs
  go_enter Try.func24, Try.ntmps24
  go_wp2_with fail
  refine (isWidth_yes _ _ (by omega) (by omega)).mono ?_
  rintro e w' ⟨rfl, rfl⟩
  go_wp2_with fail
  refine (ahead_ok n w L B g l p h hn).mono ?_
  rintro e w1 ⟨A, c, hc, rfl, hAg, hr, hb1⟩
  rw [HS.out] at hr
  go_wp2_with fail
  have hcall := leInt_any s A B c w1 (by rw [HL.out]; unfold maxLen; omega) (by rw [HL.out]; exact hr)
  rw [HL.out, HE.out] at hcall
  refine hcall.mono ?_
  rintro e w' ⟨rfl, rfl⟩
  clear hcall
  go_wp2
  go_ret2
  exact ⟨rfl, hb1⟩

theorem mInt_err (s : List UInt8) (h1 : 1 ≤ s.length) (h8 : s.length ≤ 8) : (mInt s).2 = 0 ∨ (mInt s).2 = 2 := by
  unfold mInt
  rw [if_neg (by omega)]
  split
  · exact .inr rfl
  · exact .inl rfl

/-- Int of a reader, whatever width is asked for. -/
theorem rdInt_any (n : Int) (w : World) (L B g : Nat) (l : List UInt8) (p : Nat) (h : RdAt w L B g l p) (hl : l.length ≤ maxLen) :
    Calls Try.prog 24 #[.pointer (some ⟨g, 0, none⟩), .int .i64 n] w fun e w' => e = .returned (.tuple #[.int .i64 (mRdInt l p n).1, .int .i64 (mRdInt l p n).2.1]) ∧ RdTo w w' L B g l (mRdInt l p n).2.2 := by
  by_cases hn : 1 ≤ n ∧ n ≤ 8
  · obtain ⟨k, rfl⟩ := Int.eq_ofNat_of_zero_le (show 0 ≤ n by omega)
    by_cases hs : l.length - p < k
    · have hb : mRdInt l p k = (0, 3, p) := by unfold mRdInt; rw [if_neg (by omega), if_pos (by simpa using hs)]
      rw [hb]
      exact (rdInt_short k w L B g l p (by omega) (by omega) h hs).mono fun e w' ⟨he, hb⟩ => ⟨he, RdTo.stay h hb⟩
    · have hlen : ((l.drop p).take k).length = k := by simp; have := h.1; omega
      rcases mInt_err ((l.drop p).take k) (by omega) (by omega) with he | he
      · have hb : mRdInt l p k = ((mInt ((l.drop p).take k)).1, 0, p + k) := by
          unfold mRdInt; rw [if_neg (by omega), if_neg (by simpa using hs), Int.toNat_natCast, if_pos he]
        rw [hb]
        exact rdInt_ok k w L B g l p (by omega) (by omega) h (by omega) hl he
      · have hb : mRdInt l p k = (0, 2, p) := by
          unfold mRdInt; rw [if_neg (by omega), if_neg (by simpa using hs), Int.toNat_natCast, if_neg (by omega), he]
        rw [hb]
        exact (rdInt_bad k w L B g l p (by omega) (by omega) h (by omega) he).mono fun e w' ⟨he, hb⟩ => ⟨he, RdTo.stay h hb⟩
  · have hb : mRdInt l p n = (0, 1, p) := by unfold mRdInt; rw [if_pos hn]
    rw [hb]
    exact (rdInt_width n w _ hn).mono fun e w' ⟨he, hw⟩ => ⟨he, by subst hw; exact RdTo.stay h (Below.refl _ _)⟩

/-- What Take(n) of a reader at p answers, and where it stands then. -/
def mRdTake (l : List UInt8) (p : Nat) (n : Int) : List UInt8 × Int × Nat :=
  if n < 0 then ([], 1, p) else if l.length - p < n.toNat then ([], 3, p) else ((l.drop p).take n.toNat, 0, p + n.toNat)

def TakeOk (w : World) (L B g : Nat) (l s : List UInt8) (err : Int) (q : Nat) (e : Ending) (w' : World) : Prop :=
  ∃ v, e = .returned (.tuple #[v, .int .i64 err]) ∧ w'.ownsRow w.heap.size 5 1 v s.length (bv s) ∧ RdTo w w' L B g l q

theorem rdTake_nil (n : Int) (w : World) :
    Calls Try.prog 25 #[.pointer none, .int .i64 n] w fun e w' => e = .returned (.tuple #[.slice none 0 0, .int .i64 1]) ∧ w = w' := by
  go_enter Try.func25, Try.ntmps25
  go_wp2_with (go_at_call 29; refine (ahead_nil _ _).mono ?_; rintro e w' ⟨rfl, rfl⟩)
  go_ret2
  exact ⟨rfl, rfl⟩
theorem rdTake_neg (n : Int) (w : World) (a : Addr) (hn : n < 0) :
    Calls Try.prog 25 #[.pointer (some a), .int .i64 n] w fun e w' => e = .returned (.tuple #[.slice none 0 0, .int .i64 1]) ∧ w = w' := by
  go_enter Try.func25, Try.ntmps25
  go_wp2_with (go_at_call 29; refine (ahead_neg _ _ _ hn).mono ?_; rintro e w' ⟨rfl, rfl⟩)
  go_ret2
  exact ⟨rfl, rfl⟩
theorem rdTake_short (n : Nat) (w : World) (L B g : Nat) (l : List UInt8) (p : Nat) (h : RdAt w L B g l p) (hn : l.length - p < n) :
    Calls Try.prog 25 #[.pointer (some ⟨g, 0, none⟩), .int .i64 n] w fun e w' => e = .returned (.tuple #[.slice none 0 0, .int .i64 3]) ∧ Below w.heap.size w w' := by
  go_enter Try.func25, Try.ntmps25
  go_wp2_with (go_at_call 29; refine (ahead_short _ _ _ _ _ _ _ h hn).mono ?_; rintro e w' ⟨rfl, hb1⟩)
  go_ret2
  exact ⟨rfl, hb1⟩
set_option maxHeartbeats 400000 in
theorem rdTake_ok (n : Nat) (w : World) (L B g : Nat) (l : List UInt8) (p : Nat) (h : RdAt w L B g l p) (hn : n ≤ l.length - p) (hl : l.length ≤ 140737488355328) :
    Calls Try.prog 25 #[.pointer (some ⟨g, 0, none⟩), .int .i64 n] w (TakeOk w L B g l ((l.drop p).take n) 0 (p + n)) := by
  have hlen : ((l.drop p).take n).length = n := by simp; have := h.1; omega
  have hb := h.1
  have HL := Lib.hid hlen
  clear hlen
  generalize hs : (l.drop p).take n = s at *
  have HS := Lib.hid hs
  clear hs
  go_enter Try.func25, Try.ntmps25
  go_wp2_with fail
  refine (ahead_ok n w L B g l p h hn).mono ?_
  rintro e w1 ⟨A, c, hc, rfl, hAg, hr, hb1⟩
  rw [HS.out] at hr
  obtain ⟨_, _, A0, c0, _, _, hne, hblk, _⟩ := h.here.below hb1
  have k1 := hblk.cell 1
  have f1 := hblk.frozen 1
  simp at k1
  have hmv := Lib.hid (RdTo.move h (q := p + n) (by omega) hb1)
  have hsum : (p : Int) + (n : Int) ≤ 9223372036854775807 := by omega
  have hcl := clone_any s A B c (w1.setCell ⟨g, 1, none⟩ (.int .i64 ((p + n : Nat) : Int))) (by rw [HL.out]; omega) (by rw [HL.out]; exact hr.far hAg _)
  rw [HL.out] at hcl
  have HC := Lib.hid hcl
  have hps : ((p + n : Nat) : Int) = (p : Int) + (n : Int) := by omega
  clear hblk hcl
  go_wp2_with fail
  rw [← hps]
  refine HC.out.mono ?_
  rintro e w2 ⟨v, rfl, hown, hb2⟩
  have hto := Lib.hid ((RdTo.move h (q := p + n) (by omega) hb1).on hb2)
  have hbase := Lib.hid (own_base hown (base' := w.heap.size) (by have := hb1.size; simpa [World.setCell] using this))
  clear hown
  go_wp2
  go_ret2
  exact ⟨v, rfl, by rw [HL.out]; exact hbase.out, hto.out⟩

/-- Take of a reader, whatever is asked for. -/
theorem rdTake_any (n : Int) (w : World) (L B g : Nat) (l : List UInt8) (p : Nat) (h : RdAt w L B g l p) (hl : l.length ≤ 140737488355328) :
    Calls Try.prog 25 #[.pointer (some ⟨g, 0, none⟩), .int .i64 n] w (TakeOk w L B g l (mRdTake l p n).1 (mRdTake l p n).2.1 (mRdTake l p n).2.2) := by
  by_cases hn : n < 0
  · have hb : mRdTake l p n = ([], 1, p) := by unfold mRdTake; rw [if_pos hn]
    rw [hb]
    exact (rdTake_neg n w _ hn).mono fun e w' ⟨he, hw⟩ => by subst hw; exact ⟨_, he, own_nil _ _ _ _, RdTo.stay h (Below.refl _ _)⟩
  · obtain ⟨k, rfl⟩ := Int.eq_ofNat_of_zero_le (show 0 ≤ n by omega)
    by_cases hs : l.length - p < k
    · have hb : mRdTake l p k = ([], 3, p) := by unfold mRdTake; rw [if_neg hn, if_pos (by simpa using hs)]
      rw [hb]
      exact (rdTake_short k w L B g l p h hs).mono fun e w' ⟨he, hw⟩ => ⟨_, he, own_nil _ _ _ _, RdTo.stay h hw⟩
    · have hb : mRdTake l p k = ((l.drop p).take k, 0, p + k) := by unfold mRdTake; rw [if_neg hn, if_neg (by simpa using hs)]; rfl
      rw [hb]
      exact rdTake_ok k w L B g l p h (by omega) hl

/-- What Zeros(n) of a reader at p answers, and where it stands then. -/
def mRdZeros (l : List UInt8) (p : Nat) (n : Int) : Int × Nat :=
  if n < 0 then (1, p) else if l.length - p < n.toNat then (3, p) else if ((l.drop p).take n.toNat).all (· == 0) then (0, p + n.toNat) else (4, p)

theorem rdZeros_nil (n : Int) (w : World) :
    Calls Try.prog 26 #[.pointer none, .int .i64 n] w fun e w' => e = .returned (.int .i64 1) ∧ w = w' := by
  go_enter Try.func26, Try.ntmps26
  go_wp2_with (go_at_call 29; refine (ahead_nil _ _).mono ?_; rintro e w' ⟨rfl, rfl⟩)
  go_ret
  exact ⟨rfl, rfl⟩
theorem rdZeros_neg (n : Int) (w : World) (a : Addr) (hn : n < 0) :
    Calls Try.prog 26 #[.pointer (some a), .int .i64 n] w fun e w' => e = .returned (.int .i64 1) ∧ w = w' := by
  go_enter Try.func26, Try.ntmps26
  go_wp2_with (go_at_call 29; refine (ahead_neg _ _ _ hn).mono ?_; rintro e w' ⟨rfl, rfl⟩)
  go_ret
  exact ⟨rfl, rfl⟩
theorem rdZeros_short (n : Nat) (w : World) (L B g : Nat) (l : List UInt8) (p : Nat) (h : RdAt w L B g l p) (hn : l.length - p < n) :
    Calls Try.prog 26 #[.pointer (some ⟨g, 0, none⟩), .int .i64 n] w fun e w' => e = .returned (.int .i64 3) ∧ Below w.heap.size w w' := by
  go_enter Try.func26, Try.ntmps26
  go_wp2_with (go_at_call 29; refine (ahead_short _ _ _ _ _ _ _ h hn).mono ?_; rintro e w' ⟨rfl, hb1⟩)
  go_ret
  exact ⟨rfl, hb1⟩

def ZerosOk (w : World) (L B g : Nat) (l s : List UInt8) (p n : Nat) (e : Ending) (w' : World) : Prop :=
  (s.all (· == 0) = true ∧ e = .returned (.int .i64 0) ∧ RdTo w w' L B g l (p + n)) ∨ (s.all (· == 0) = false ∧ e = .returned (.int .i64 4) ∧ Below w.heap.size w w')

set_option maxHeartbeats 400000 in
theorem rdZeros_ok (n : Nat) (w : World) (L B g : Nat) (l : List UInt8) (p : Nat) (h : RdAt w L B g l p) (hn : n ≤ l.length - p) (hl : l.length ≤ maxLen) :
    Calls Try.prog 26 #[.pointer (some ⟨g, 0, none⟩), .int .i64 n] w (ZerosOk w L B g l ((l.drop p).take n) p n) := by
  have hlen : ((l.drop p).take n).length = n := by simp; have := h.1; omega
  have hb := h.1
  unfold maxLen at hl
  have HL := Lib.hid hlen
  clear hlen
  generalize hs : (l.drop p).take n = s at *
  have HS := Lib.hid hs
  clear hs
  go_enter Try.func26, Try.ntmps26
  go_wp2_with fail
  refine (ahead_ok n w L B g l p h hn).mono ?_
  rintro e w1 ⟨A, c, hc, rfl, hAg, hr, hb1⟩
  rw [HS.out] at hr
  have hne : ((0 : Int) != 0) = false := by simp
  go_wp2
  go_loop [20] (fun i => ∃ k : Nat, k ≤ n ∧ i = .int .i64 k ∧ Hid ((s.take k).all (· == 0) = true)) (fun i => n - (intOf i).toNat)
  case atStart => exact ⟨0, Nat.zero_le _, rfl, by simp [Hid]⟩
  case round =>
    obtain ⟨k, hk, rfl, hz⟩ := hrel
    by_cases hlt : k < n
    · have hks : k < s.length := by rw [HL.out]; exact hlt
      obtain ⟨b, off, rfl, hbB, hcell⟩ := hr.form (by omega)
      have hx := hcell k _ (bv_get s k hks)
      have HC := Lib.hid hcell
      clear hcell
      by_cases hxz : s[k] = 0
      · have hd : ((s[k].toNat : Int) != 0) = false := by rw [bne_eq_false_iff_eq, hxz]; rfl
        have hz' : (s.take (k + 1)).all (· == 0) = true := by
          rw [List.take_succ_eq_append_getElem hks, List.all_append, hz.out, hxz]
          rfl
        have HZ := Lib.hid hz'
        clear hz' hxz
        generalize (s[k].toNat : Int) = x at hx hd
        go_wp2
        go_round
        case rel => exact ⟨k + 1, by omega, by go_num, HZ⟩
        case measure => simp [intOf]; omega
      · have hd : ((s[k].toNat : Int) != 0) = true := by
          rw [bne_iff_ne]
          intro e
          exact hxz (UInt8.toNat_inj.1 (by simpa using e))
        have hz' : s.all (· == 0) = false := by
          rw [List.all_eq_false]
          exact ⟨s[k], List.getElem_mem _, by simpa using hxz⟩
        have HZ := Lib.hid hz'
        clear hz' hxz
        generalize (s[k].toNat : Int) = x at hx hd
        go_wp2
        go_ret
        exact .inr ⟨HZ.out, rfl, hb1⟩
    · have hk' : k = n := by omega
      have hz' : s.all (· == 0) = true := by
        have := hz.out
        rwa [hk', List.take_of_length_le (by rw [HL.out]; omega)] at this
      have HZ := Lib.hid hz'
      clear hz' hk'
      obtain ⟨_, _, A0, c0, _, _, _, hblk, _⟩ := h.here.below hb1
      have k1 := hblk.cell 1
      have f1 := hblk.frozen 1
      simp at k1
      have hmv := Lib.hid (RdTo.move h (q := p + n) (by omega) hb1)
      have hsum : (p : Int) + (n : Int) ≤ 9223372036854775807 := by omega
      clear hblk
      go_wp2
      go_ret
      exact .inl ⟨HZ.out, rfl, hmv.out⟩

/-- Zeros of a reader, whatever is asked for. -/
theorem rdZeros_any (n : Int) (w : World) (L B g : Nat) (l : List UInt8) (p : Nat) (h : RdAt w L B g l p) (hl : l.length ≤ maxLen) :
    Calls Try.prog 26 #[.pointer (some ⟨g, 0, none⟩), .int .i64 n] w fun e w' => e = .returned (.int .i64 (mRdZeros l p n).1) ∧ RdTo w w' L B g l (mRdZeros l p n).2 := by
  by_cases hn : n < 0
  · have hb : mRdZeros l p n = (1, p) := by unfold mRdZeros; rw [if_pos hn]
    rw [hb]
    exact (rdZeros_neg n w _ hn).mono fun e w' ⟨he, hw⟩ => by subst hw; exact ⟨he, RdTo.stay h (Below.refl _ _)⟩
  · obtain ⟨k, rfl⟩ := Int.eq_ofNat_of_zero_le (show 0 ≤ n by omega)
    by_cases hs : l.length - p < k
    · have hb : mRdZeros l p k = (3, p) := by unfold mRdZeros; rw [if_neg hn, if_pos (by simpa using hs)]
      rw [hb]
      exact (rdZeros_short k w L B g l p h hs).mono fun e w' ⟨he, hw⟩ => ⟨he, RdTo.stay h hw⟩
    · refine (rdZeros_ok k w L B g l p h (by omega) hl).mono ?_
      rintro e w' (⟨hz, he, hto⟩ | ⟨hz, he, hbl⟩)
      · have hb : mRdZeros l p k = (0, p + k) := by unfold mRdZeros; rw [if_neg hn, if_neg (by simpa using hs), Int.toNat_natCast, if_pos hz]
        rw [hb]
        exact ⟨he, hto⟩
      · have hb : mRdZeros l p k = (4, p) := by unfold mRdZeros; rw [if_neg hn, if_neg (by simpa using hs), Int.toNat_natCast, if_neg (by rw [hz]; simp)]
        rw [hb]
        exact ⟨he, RdTo.stay h hbl⟩
end Go.Proofs.Ytklpljkjknncgaa
