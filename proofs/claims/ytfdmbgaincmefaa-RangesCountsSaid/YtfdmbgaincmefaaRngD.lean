/- Contract of octavoref03.marks: all ends of the lists, rising. Conditions: the slices read as the lists that are named and are short. -/
import Derived.Test.YtfdmbgaincmefaaRngC
namespace Go.Proofs.Ytfdmbgaincmefaa
open Go.RowKit

/-- A list among several: where it lies, its ranges, its capacity. -/
abbrev RPart := Option Addr × List Rg × Nat
def rpvs (ps : List RPart) : List Value := ps.map fun p => .slice p.1 p.2.1.length p.2.2
def RPartsRead (w : World) (B : Nat) (ps : List RPart) : Prop := ∀ (k : Nat) (p : RPart), ps[k]? = some p → Reads w B 2 p.1 p.2.1.length (rgv p.2.1) ∧ p.2.1.length ≤ 1073741824
def marksAll (ps : List RPart) : List Int := ps.foldl (fun m p => marksOf m p.2.1) [0]
theorem rpvs_get (ps : List RPart) (k : Nat) (h : k < ps.length) : (rpvs ps)[k]? = some (.slice ps[k].1 ps[k].2.1.length ps[k].2.2) := by
  simp [rpvs, List.getElem?_map, List.getElem?_eq_getElem h]
theorem marksAll_take (ps : List RPart) (k : Nat) (h : k < ps.length) : marksAll (ps.take (k + 1)) = marksOf (marksAll (ps.take k)) ps[k].2.1 := by
  rw [List.take_succ_eq_append_getElem h, marksAll, List.foldl_append]
  rfl
theorem marksOf_take (m : List Int) (l : List Rg) (j : Nat) (h : j < l.length) : marksOf m (l.take (j + 1)) = putL (putL (marksOf m (l.take j)) l[j].1) l[j].2 := by
  rw [List.take_succ_eq_append_getElem h, marksOf_snoc]
theorem marksOf_len (m : List Int) (l : List Rg) : (marksOf m l).length ≤ m.length + 2 * l.length := by
  refine snoc_induct (P := fun l => (marksOf m l).length ≤ m.length + 2 * l.length) ?_ ?_ l
  · simp [marksOf]
  · intro l r ih
    rw [marksOf_snoc]
    have h1 := putL_len (putL (marksOf m l) r.1) r.2
    have h2 := putL_len (marksOf m l) r.1
    simp only [List.length_append, List.length_cons, List.length_nil]
    omega
theorem marksAll_len (ps : List RPart) (h : ∀ (k : Nat) (p : RPart), ps[k]? = some p → p.2.1.length ≤ 1073741824) (k : Nat) (hk : k ≤ ps.length) : (marksAll (ps.take k)).length ≤ 1 + k * 2147483648 := by
  induction k with
  | zero => simp [marksAll]
  | succ k ih =>
    rw [marksAll_take ps k (by omega)]
    have h1 := marksOf_len (marksAll (ps.take k)) ps[k].2.1
    have h2 := h k _ (List.getElem?_eq_getElem (by omega))
    have h3 := ih (by omega)
    omega

theorem below_of_drew {w w' : World} (h : Below w.drew.heap.size w.drew w') : Below w.heap.size w w' := ((Below.refl w.heap.size w).drew).trans h

set_option maxHeartbeats 1600000 in
theorem marks_any (ps : List RPart) (A : Option Addr) (B c : Nat) (w : World) (hl : ps.length ≤ 4) (h : Reads w B 1 A ps.length (rpvs ps)) (hp : RPartsRead w B ps) :
    Calls Try.prog 29 #[.slice A ps.length c] w fun e w' => ∃ A' c', e = .returned (.slice A' (marksAll ps).length c') ∧ Reads w' w'.heap.size 1 A' (marksAll ps).length (iv (marksAll ps)) ∧ Below w.heap.size w w' := by
  have HR := Lib.hid h
  have HP := Lib.hid hp
  have HL := fun k (hk : k ≤ ps.length) => Lib.hid (marksAll_len ps (fun k p hk => (hp k p hk).2) k hk)
  clear h hp
  go_enter Try.func29, Try.ntmps29
  go_wp2
  go_loopw [3, 10] (fun v i wr => ∃ (k n : Nat) (A3 : Option Addr) (c3 : Nat), k ≤ ps.length ∧ i = .int .i64 k ∧ v = .slice A3 n c3 ∧ Hid (n = (marksAll (ps.take k)).length) ∧ Reads wr wr.heap.size 1 A3 n (iv (marksAll (ps.take k))) ∧ Below w.heap.size w wr) (fun _ i _ => ps.length - (intOf i).toNat)
  case atStart =>
    exact ⟨0, 1, _, _, Nat.zero_le _, rfl, rfl, rfl, (reads_vals0 w 3 [.int .i64 0] 1 rfl), (Below.refl _ _).alloc (Nat.le_refl _) _⟩
  case round =>
    obtain ⟨k, n, A3, c3, hk, rfl, rfl, HN, hr3, hbel⟩ := hrel
    by_cases hlt : k < ps.length
    · obtain ⟨b, off, rfl, hbB, hc⟩ := (HR.out.here2.below hbel).form (by omega)
      have hx := hc k _ (rpvs_get ps k hlt)
      have hi : (k : Int) < (ps.length : Int) := by omega
      obtain ⟨hrk, hlk⟩ := HP.out k _ (List.getElem?_eq_getElem hlt)
      have HT := Lib.hid (marksAll_take ps k hlt)
      have hlen := (HL k hk).out
      have hn : n ≤ 1 + k * 2147483648 := by rw [HN.out]; exact hlen
      generalize ps[k] = p at *
      obtain ⟨A', l, c'⟩ := p
      simp only at hrk hlk hx HT
      have HRK := Lib.hid (hrk.here2.below hbel)
      have HB := Lib.hid hbel
      have HR3 := Lib.hid hr3
      clear hc hrk hbel hr3 hlen
      generalize hm0 : marksAll (ps.take k) = m0 at *
      have HM0 := Lib.hid hm0
      clear hm0
      obtain ⟨wo, rfl⟩ : ∃ wo : World, wo = wr := ⟨_, rfl⟩
      go_wp2
      go_loopw [3, 6] (fun v i wr => ∃ (j n : Nat) (A3 : Option Addr) (c3 : Nat), j ≤ l.length ∧ i = .int .i64 j ∧ v = .slice A3 n c3 ∧ Hid (n = (marksOf m0 (l.take j)).length) ∧ Reads wr wr.heap.size 1 A3 n (iv (marksOf m0 (l.take j))) ∧ Below wo.heap.size wo wr) (fun _ i _ => l.length - (intOf i).toNat)
      case atStart => exact ⟨0, n, _, _, Nat.zero_le _, rfl, rfl, by simp only [List.take_zero]; exact HN, by simp only [List.take_zero]; exact HR3.out, Below.refl _ _⟩
      case round =>
        obtain ⟨j, n2, A4, c4, hj, rfl, rfl, HN2, hr4, hbel4⟩ := hrel
        by_cases hlt2 : j < l.length
        · obtain ⟨b2, off2, rfl, hbB2, hc2⟩ := ((HRK.out.here2).below hbel4).rg (by omega)
          obtain ⟨x1, x2⟩ := hc2 j hlt2
          have hi2 : (j : Int) < (l.length : Int) := by omega
          have j0 : (0 : Int) ≤ (j : Int) := by omega
          have HT2 := Lib.hid (marksOf_take m0 l j hlt2)
          have hml := marksOf_len m0 (l.take j)
          rw [List.length_take, Nat.min_eq_left hj, ← HN2.out, ← HN.out] at hml
          have hn2 : n2 ≤ 1099511627770 := by omega
          have lx1 := lt_of_cell x1
          have lx2 := lt_of_cell x2
          simp only at lx1 lx2
          clear hc2 hml
          generalize l[j].1 = x at *
          generalize l[j].2 = y at *
          generalize hm1 : marksOf m0 (l.take j) = m1 at *
          have HM1 := Lib.hid hm1
          clear hm1
          obtain rfl : n2 = m1.length := HN2.out
          have HR4 := Lib.hid hr4
          have HB4 := Lib.hid hbel4
          clear hr4 hbel4 HN2
          have hpl := putL_len m1 x
          have hpl2 : (putL m1 x).length ≤ 1099511627776 := by omega
          have hpl1 : m1.length ≤ 1099511627776 := by omega
          clear hpl
          go_wp2_with fail
          go_region_held3 (fun w' => Below wr.heap.size wr w' ∧ w'.cell? ⟨b2, off2 + j * 2, none⟩ = some (.int .i64 x) ∧ w'.cell? ⟨b2, off2 + j * 2 + 1, none⟩ = some (.int .i64 y))
            (first
              | exact ⟨(Below.refl _ _).drew, x1, x2⟩
              | exact ⟨hbK2, (hbK2.cell (p := ⟨b2, off2 + j * 2, none⟩) lx1).trans x1, (hbK2.cell (p := ⟨b2, off2 + j * 2 + 1, none⟩) lx2).trans x2⟩
              | exact ⟨hbK, (hbK.cell (p := ⟨b2, off2 + j * 2, none⟩) lx1).trans x1, (hbK.cell (p := ⟨b2, off2 + j * 2 + 1, none⟩) lx2).trans x2⟩
              | go_keep)
            (first
              | (go_at_call 36; refine (put_any (putL m1 x) y A5 w1.heap.size c5 w1 hpl2 HR5.out).mono ?_; rintro e w2 ⟨A6, c6, rfl, hr6, hb6⟩; have hbK2 : Below wr.heap.size wr w2 := hbK.trans (hb6.mono hbK.size); have HR6 := Lib.hid hr6; clear hr6 hb6)
              | (go_at_call 36; refine (put_any m1 x A4 wr.heap.size c4 wr.drew hpl1 HR4.out).mono ?_; rintro e w1 ⟨A5, c5, rfl, hr5, hb5⟩; have hbK : Below wr.heap.size wr w1 := below_of_drew hb5; have HR5 := Lib.hid hr5; clear hr5 hb5)
              | fail)
          go_wp2
          go_roundw
          case rel =>
            refine ⟨j + 1, _, A6, c6, by omega, by go_num, rfl, ?_, ?_, HB4.out.trans (hbK2.mono HB4.out.size)⟩
            · show _ = _
              rw [HT2.out]
            · rw [HT2.out]
              exact HR6.out
          case measure => simp [intOf]; omega
        · obtain rfl : j = l.length := by omega
          have hn3 := HN2.out
          rw [List.take_length] at hn3 hr4
          have HN3 := Lib.hid hn3
          have HR4 := Lib.hid hr4
          have HB4 := Lib.hid hbel4
          clear hn3 hr4 hbel4 HN2
          go_wp2
          go_roundw
          case rel =>
            refine ⟨k + 1, n2, A4, c4, by omega, by go_num, rfl, ?_, ?_, HB.out.trans (HB4.out.mono HB.out.size)⟩
            · show _ = _
              rw [HT.out]
              exact HN3.out
            · rw [HT.out]
              exact HR4.out
          case measure => simp [intOf]; omega
    · obtain rfl : k = ps.length := by omega
      have hn := HN.out
      rw [List.take_length] at hn hr3
      have HN3 := Lib.hid hn
      have HR3 := Lib.hid hr3
      have HB := Lib.hid hbel
      clear hn hr3 hbel HN
      go_wp2
      go_ret
      rw [← HN3.out]
      exact ⟨A3, c3, rfl, HR3.out, HB.out⟩
end Go.Proofs.Ytfdmbgaincmefaa
