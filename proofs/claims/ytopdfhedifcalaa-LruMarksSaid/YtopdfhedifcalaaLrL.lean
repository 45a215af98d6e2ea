/- Contracts of octavoref01.Ints, and of octavolaw06's awake. Conditions: that the slices read as numbers. -/
import Derived.Test.YtopdfhedifcalaaLrK
import Derived.Test.YtopdfhedifcalaaLqE
import Derived.Test.YtopdfhedifcalaaPick
namespace Go.Proofs.Ytopdfhedifcalaa
open Go.RowKit

/-- A slice of numbers. -/
def IntsAt (w : World) (A : Option Addr) (l : List Int) : Prop := Reads w w.heap.size 1 A l.length (l.map (Value.int .i64))
theorem ints_row {w : World} {base : Nat} {v : Value} {l : List Int} (h : IntRow w base v l) : ∃ A c, v = .slice A l.length c ∧ IntsAt w A l := by
  obtain ⟨A, c, rfl⟩ := h.slice
  exact ⟨A, c, rfl, Reads.of_own h⟩
theorem IntsAt.below {w w' : World} {A : Option Addr} {l : List Int} (h : IntsAt w A l) (hb : Below w.heap.size w w') : IntsAt w' A l := Reads.more (Reads.below h hb) hb.size
theorem IntsAt.drewN {w : World} {A : Option Addr} {l : List Int} (h : IntsAt w A l) (n : Nat) : IntsAt (w.drewN n) A l := h
theorem IntsAt.at_ {w : World} {A : Option Addr} {l : List Int} (h : IntsAt w A l) (hl : 0 < l.length) : ∃ b o, A = some ⟨b, o, none⟩ ∧ ∀ k (hk : k < l.length), w.cell? ⟨b, o + k, none⟩ = some (.int .i64 l[k]) := by
  obtain ⟨ad, rfl, hb, hc⟩ := h.2 hl
  obtain ⟨b, o, sp⟩ := ad
  have h0 := hc 0 _ (by rw [List.getElem?_map, List.getElem?_eq_getElem hl]; rfl)
  have hsp : sp = none := by simpa [Addr.add] using World.cell?_spot h0
  subst hsp
  refine ⟨b, o, rfl, fun k hk => ?_⟩
  have h1 := hc k _ (by rw [List.getElem?_map, List.getElem?_eq_getElem hk]; rfl)
  have e : (⟨b, o, none⟩ : Addr).add k = ⟨b, o + k, none⟩ := by
    unfold Addr.add
    by_cases hj : k = 0
    · subst hj; rfl
    · simp [hj]
  rwa [e] at h1
set_option maxRecDepth 100000 in
set_option maxHeartbeats 1600000 in
theorem ints_any {w : World} {A A' : Option Addr} {a b : List Int} (c c' : Nat) (h : IntsAt w A a) (h' : IntsAt w A' b) (hl : a.length ≤ 1000000) (hl' : b.length ≤ 1000000) :
    Calls Try.prog 14 #[.slice A a.length c, .slice A' b.length c'] w fun e w' => e = .returned (.bool (decide (a = b))) ∧ ∃ n, w' = w.drewN n := by
  by_cases hne : a.length = b.length
  · have hb : ((a.length : Int) != (b.length : Int)) = false := by simp; omega
    have HE := Lib.hid hne
    have HA := Lib.hid h
    have HA' := Lib.hid h'
    rw [hne]
    have hb' : ((b.length : Int) != (b.length : Int)) = false := by simp
    clear h h' hne hb
    go_enter Try.func14, Try.ntmps14
    go_wp2
    go_loopw [5] (fun i wr => ∃ k n : Nat, k ≤ b.length ∧ i = .int .i64 k ∧ Hid (∀ j (hj : j < k) (h1 : j < a.length) (h2 : j < b.length), a[j] = b[j]) ∧ wr = w.drewN n) (fun i _ => b.length - (intOf i).toNat)
    case atStart => exact ⟨0, 0, Nat.zero_le _, rfl, fun j hj => by omega, rfl⟩
    case round =>
      obtain ⟨k, n, hk, rfl, HN, rfl⟩ := hrel
      by_cases hlt : k < b.length
      · have hlt2 : k < a.length := by rw [HE.out]; exact hlt
        obtain ⟨b1, o1, rfl, hc1⟩ := HA.out.at_ (by omega)
        obtain ⟨b2, o2, rfl, hc2⟩ := HA'.out.at_ (by omega)
        have x1 := hc1 k hlt2
        have x2 := hc2 k hlt
        have hi : (k : Int) < (b.length : Int) := by omega
        have HN1 : Hid (a[k] = b[k] → ∀ j (hj : j < k + 1) (h1 : j < a.length) (h2 : j < b.length), a[j] = b[j]) := Lib.hid (fun he j hj h1 h2 => by
          rcases Nat.lt_or_eq_of_le (Nat.le_of_lt_succ hj) with h3 | rfl
          · exact HN.out j h3 h1 h2
          · exact he)
        have HF : Hid (a[k] ≠ b[k] → a ≠ b) := Lib.hid (fun hx e => by subst e; exact hx rfl)
        clear hc1 hc2
        generalize a[k] = x at *
        generalize b[k] = y at *
        by_cases he : x = y
        · have hq : (x != y) = false := by simp [he]
          have HR := Lib.hid (HN1.out he)
          clear he HN1 HF
          go_wp2_with fail
          go_quiet (fail)
          go_wp2_with fail
          go_roundw
          case rel => exact ⟨k + 1, n + nq, by omega, by go_num, HR, rfl⟩
          case measure => simp [intOf]; omega
        · have hq : (x != y) = true := by simp [he]
          have HR := Lib.hid (HF.out he)
          clear he HN1 HF
          go_wp2_with fail
          go_quiet (fail)
          go_wp2_with fail
          go_ret
          rw [decide_eq_false HR.out]
          exact ⟨rfl, n + nq, by simp [World.drewN, Nat.add_assoc]⟩
      · obtain rfl : k = b.length := by omega
        have HR : Hid (a = b) := Lib.hid (List.ext_getElem HE.out fun j h1 h2 => HN.out j h2 h1 h2)
        go_wp2
        go_ret
        rw [decide_eq_true HR.out]
        exact ⟨rfl, n, rfl⟩
  · have hb : ((a.length : Int) != (b.length : Int)) = true := by simp; omega
    have HR : Hid (a ≠ b) := Lib.hid (fun e => hne (by rw [e]))
    clear hne
    go_enter Try.func14, Try.ntmps14
    go_wp2
    go_ret
    rw [decide_eq_false HR.out]
    exact ⟨rfl, 0, rfl⟩

/-! ### A list of the call's own -/
/-- The landed list at p, all its blocks from n on. -/
def NewL (n : Nat) (w : World) (p : Nat) (s : LU) : Prop := ∃ F : Nat → Prop, LruAt w F p s ∧ ∀ k, F k → n ≤ k ∧ k < w.heap.size
/-- Behind a call on it. -/
def DidN (n : Nat) (w : World) (p : Nat) (v : Value) (s : LU) (e : Ending) (w' : World) : Prop := e = .returned v ∧ NewL n w' p s ∧ Below n w w' ∧ n ≤ w'.heap.size
section
variable {n p : Nat} {w w' : World} {s s' : LU} {v : Value} {e : Ending}
theorem did_new {F : Nat → Prop} (hF : ∀ k, F k → n ≤ k ∧ k < w.heap.size) (hn : n ≤ w.heap.size) (h : Did w F p v s' e w') : DidN n w p v s' e w' := by
  obtain ⟨h1, h2, h3⟩ := h
  have hs := h3.size
  refine ⟨h1, ⟨_, h2, fun k hk => ?_⟩, h3.below (fun k hk => (hF k hk).1) hn, Nat.le_trans hn hs⟩
  rcases hk with hk | hk
  · have := hF k hk; omega
  · omega
theorem NewL.below (h : NewL n w p s) (hb : Below w.heap.size w w') : NewL n w' p s := by
  obtain ⟨F, h1, h2⟩ := h
  have := hb.size
  exact ⟨F, h1.below hb, fun k hk => by have := h2 k hk; omega⟩
theorem NewL.lt (h : NewL n w p s) : n ≤ p ∧ p < w.heap.size := by
  obtain ⟨F, h1, h2⟩ := h
  exact ⟨(h2 p h1.lt.2).1, h1.lt.1⟩
theorem new_use (h : NewL n w p s) (hn : n ≤ w.heap.size) (k : Int) (hk : (Lit.int .i64 k).wf = true) : Calls Try.prog 18 #[.pointer (some ⟨p, 0, none⟩), .int .i64 k] w (DidN n w p (.bool (s.use k).2) (s.use k).1) := by
  obtain ⟨F, h1, h2⟩ := h
  exact (at_use h1 k hk).mono fun e w' hd => did_new h2 hn hd
theorem new_drop (h : NewL n w p s) (hn : n ≤ w.heap.size) (k : Int) (hk : (Lit.int .i64 k).wf = true) : Calls Try.prog 22 #[.pointer (some ⟨p, 0, none⟩), .int .i64 k] w (DidN n w p (.bool (s.drop k).2) (s.drop k).1) := by
  obtain ⟨F, h1, h2⟩ := h
  exact (at_drop h1 k hk).mono fun e w' hd => did_new h2 hn hd
theorem new_pin (h : NewL n w p s) (hn : n ≤ w.heap.size) (hp : PinsLe s 1152921504606846976) (k : Int) (hk : (Lit.int .i64 k).wf = true) : Calls Try.prog 20 #[.pointer (some ⟨p, 0, none⟩), .int .i64 k] w (DidN n w p (.bool (s.pin k).2) (s.pin k).1) := by
  obtain ⟨F, h1, h2⟩ := h
  exact (at_pin h1 hp k hk).mono fun e w' hd => did_new h2 hn hd
theorem new_unpin (h : NewL n w p s) (hn : n ≤ w.heap.size) (hp : PinsLe s 1152921504606846976) (k : Int) (hk : (Lit.int .i64 k).wf = true) : Calls Try.prog 23 #[.pointer (some ⟨p, 0, none⟩), .int .i64 k] w (DidN n w p (.bool (s.unpin k).2) (s.unpin k).1) := by
  obtain ⟨F, h1, h2⟩ := h
  exact (at_unpin h1 hp k hk).mono fun e w' hd => did_new h2 hn hd
theorem new_mark (h : NewL n w p s) (hn : n ≤ w.heap.size) (k : Int) (on : Bool) (hk : (Lit.int .i64 k).wf = true) : Calls Try.prog 24 #[.pointer (some ⟨p, 0, none⟩), .int .i64 k, .bool on] w (DidN n w p (.bool (s.mark k on).2) (s.mark k on).1) := by
  obtain ⟨F, h1, h2⟩ := h
  exact (at_mark h1 k on hk).mono fun e w' hd => did_new h2 hn hd
theorem new_add (h : NewL n w p s) (hn : n ≤ w.heap.size) (k : Int) (hk : (Lit.int .i64 k).wf = true) : Calls Try.prog 19 #[.pointer (some ⟨p, 0, none⟩), .int .i64 k] w (DidN n w p (addV s k) (s.add k).1) := by
  obtain ⟨F, h1, h2⟩ := h
  exact (at_add h1 k hk).mono fun e w' hd => did_new h2 hn hd
theorem new_has (h : NewL n w p s) (k : Int) (hk : (Lit.int .i64 k).wf = true) : Calls Try.prog 11 #[.pointer (some ⟨p, 0, none⟩), .int .i64 k] w fun e w' => e = .returned (.bool (s.has k)) ∧ w = w' := by
  obtain ⟨F, h1, h2⟩ := h
  exact at_has h1 k hk
/-- A call that answers a new row. -/
def RowOut (w : World) (l : List Int) (e : Ending) (w' : World) : Prop := ∃ A c, e = .returned (.slice A l.length c) ∧ IntRow w' w.heap.size (.slice A l.length c) l ∧ Below w.heap.size w w'
theorem rowout {l : List Int} (h : ∃ v, e = .returned v ∧ IntRow w' w.heap.size v l ∧ Below w.heap.size w w') : RowOut w l e w' := by
  obtain ⟨v, h1, h2, h3⟩ := h
  obtain ⟨A, c, rfl⟩ := h2.slice
  exact ⟨A, c, h1, h2, h3⟩
theorem new_keys (h : NewL n w p s) : Calls Try.prog 13 #[.pointer (some ⟨p, 0, none⟩)] w (RowOut w s.keys) := by
  obtain ⟨F, h1, h2⟩ := h
  exact (at_keys h1).mono fun e w' hd => rowout hd
theorem new_marked (h : NewL n w p s) : Calls Try.prog 16 #[.pointer (some ⟨p, 0, none⟩)] w (RowOut w s.marked) := by
  obtain ⟨F, h1, h2⟩ := h
  exact (at_marked h1).mono fun e w' hd => rowout hd
theorem new_oldest (h : NewL n w p s) : Calls Try.prog 21 #[.pointer (some ⟨p, 0, none⟩)] w fun e w' => e = .returned (oldV s) ∧ Below w.heap.size w w' := by
  obtain ⟨F, h1, h2⟩ := h
  exact at_oldest h1
theorem NewL.ok (h : NewL n w p s) : s.Ok ∧ s.cap ≤ 4096 := by
  obtain ⟨F, h1, h2⟩ := h
  exact ⟨h1.ok, h1.cap⟩
/-- A new list. -/
def MadeN (n : Nat) (w : World) (s : LU) (e : Ending) (w' : World) : Prop := ∃ g, e = .returned (.tuple #[.pointer (some ⟨g, 0, none⟩), .int .i64 0]) ∧ NewL n w' g s ∧ Below w.heap.size w w' ∧ n ≤ w'.heap.size
theorem new_new (hn : n ≤ w.heap.size) (c : Nat) (h1 : 1 ≤ c) (h2 : c ≤ 4096) : Calls Try.prog 8 #[.int .i64 (c : Int)] w (MadeN n w ⟨c, []⟩) :=
  (lru_new_ok c w h1 h2).mono fun _ _ ⟨g, k1, k2, k3, _, _⟩ => ⟨g, k1, ⟨_, k2, fun _ hk => ⟨Nat.le_trans hn hk.1, hk.2⟩⟩, k3, Nat.le_trans hn k3.size⟩
end

/-! ### The document's example -/
theorem aw1 : LU.add ⟨2, []⟩ 1 = (⟨2, [⟨1, 0, false⟩]⟩, 0, false, 0) := rfl
theorem aw2 : LU.add ⟨2, [⟨1, 0, false⟩]⟩ 2 = (⟨2, [⟨1, 0, false⟩, ⟨2, 0, false⟩]⟩, 0, false, 0) := rfl
theorem aw3 : LU.use ⟨2, [⟨1, 0, false⟩, ⟨2, 0, false⟩]⟩ 1 = (⟨2, [⟨2, 0, false⟩, ⟨1, 0, false⟩]⟩, true) := rfl
theorem aw4 : LU.add ⟨2, [⟨2, 0, false⟩, ⟨1, 0, false⟩]⟩ 3 = (⟨2, [⟨1, 0, false⟩, ⟨3, 0, false⟩]⟩, 2, true, 0) := rfl
set_option maxRecDepth 100000 in
set_option maxHeartbeats 3200000 in
theorem awake_any (w : World) : Calls Try.prog 9 #[] w fun e w' => e = .returned (.bool true) ∧ Below w.heap.size w w' := by
  have HNew := Lib.hid (new_new (w := w) (n := w.heap.size) (Nat.le_refl _) 2 (by decide) (by decide))
  have HW1 : Hid ((Lit.int .i64 1).wf = true) := Lib.hid (by decide)
  have HW2 : Hid ((Lit.int .i64 2).wf = true) := Lib.hid (by decide)
  have HW3 : Hid ((Lit.int .i64 3).wf = true) := Lib.hid (by decide)
  go_enter Try.func9, Try.ntmps9
  go_wp2_with (first
    | (go_at_call 8; refine HNew.out.mono ?_; rintro e w1 ⟨g, rfl, h1, b1, n1⟩))
  have HA1 := Lib.hid (new_add h1 n1 1 HW1.out)
  unfold addV at HA1
  rw [aw1] at HA1
  go_at_call 19
  refine HA1.out.mono ?_
  rintro e w2 ⟨rfl, h2, b2, n2⟩
  go_wp2_with fail
  have HA2 := Lib.hid (new_add h2 n2 2 HW2.out)
  unfold addV at HA2
  rw [aw2] at HA2
  go_at_call 19
  refine HA2.out.mono ?_
  rintro e w3 ⟨rfl, h3, b3, n3⟩
  go_wp2_with fail
  have HA3 := Lib.hid (new_use h3 n3 1 HW1.out)
  rw [aw3] at HA3
  go_at_call 18
  refine HA3.out.mono ?_
  rintro e w4 ⟨rfl, h4, b4, n4⟩
  go_wp2_with fail
  have HA4 := Lib.hid (new_add h4 n4 3 HW3.out)
  unfold addV at HA4
  rw [aw4] at HA4
  go_at_call 19
  refine HA4.out.mono ?_
  rintro e w5 ⟨rfl, h5, b5, n5⟩
  go_wp2_with fail
  have HK := Lib.hid (new_keys h5)
  rw [show LU.keys ⟨2, [⟨1, 0, false⟩, ⟨3, 0, false⟩]⟩ = [1, 3] from rfl] at HK
  go_at_call 13
  refine HK.out.mono ?_
  rintro e w6 ⟨A, c, rfl, hr6, b6⟩
  have HI : Hid (Calls Try.prog 14 #[.slice A 2 c, .slice (some ⟨w6.heap.size, 0, none⟩) 2 2] (w6.alloc (.cells #[.int .i64 1, .int .i64 3] 3)) fun e w' => e = .returned (.bool true) ∧ ∃ n, w' = (w6.alloc (.cells #[.int .i64 1, .int .i64 3] 3)).drewN n) := Lib.hid (by
    have hi1 : IntsAt w6 A [1, 3] := Reads.of_own hr6
    have hi2 : IntsAt (w6.alloc (.cells #[.int .i64 1, .int .i64 3] 3)) (some ⟨w6.heap.size, 0, none⟩) [1, 3] := reads_vals0 w6 3 [.int .i64 1, .int .i64 3] 2 rfl
    exact ints_any c 2 (hi1.below ((Below.refl _ _).alloc (Nat.le_refl _) _)) hi2 (by decide) (by decide))
  have HB : Hid (∀ n, Below w.heap.size w ((w6.alloc (.cells #[.int .i64 1, .int .i64 3] 3)).drewN n)) := Lib.hid (fun n => below_drewN ((((((b1.trans b2).trans b3).trans b4).trans b5).trans (b6.mono n5)).alloc (Nat.le_trans n5 b6.size) _) n)
  rw [show ([1, 3] : List Int).length = 2 from rfl]
  clear HNew HA1 HA2 HA3 HA4 HK h1 h2 h3 h4 h5 b1 b2 b3 b4 b5 b6 n1 n2 n3 n4 n5 hr6
  go_wp2_with (go_at_call 14; refine HI.out.mono ?_; rintro e w7 ⟨rfl, n7, rfl⟩)
  go_ret
  exact ⟨rfl, HB.out _⟩
end Go.Proofs.Ytopdfhedifcalaa
