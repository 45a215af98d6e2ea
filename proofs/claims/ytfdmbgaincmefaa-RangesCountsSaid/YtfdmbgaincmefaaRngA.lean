/- Lists of ranges in memory, two cells each, and contracts of octavoref03.Has and Same. Conditions: the slices read as the lists that are named; their lengths are ints. -/
import Derived.Test.YtfdmbgaincmefaaProg
import Derived.Test.YtfdmbgaincmefaaMath
import Derived.Test.YtfdmbgaincmefaaRngMath
import Derived.WalkKit
import Derived.WalkSpells
import Derived.WalkLawsBesides
import Derived.Lib.Hide
import Derived.BigQuiet
import Derived.Deep.QuietTactic
import Derived.Outline
namespace Go.Proofs.Ytfdmbgaincmefaa
open Go.RowKit

/-- Ranges as cells. -/
def rgv (l : List Rg) : List Value := l.flatMap fun r => [.int .i64 r.1, .int .i64 r.2]
theorem rgv_length (l : List Rg) : (rgv l).length = l.length * 2 := by
  induction l with
  | nil => rfl
  | cons r l ih => simp only [rgv, List.flatMap_cons, List.length_append, List.length_cons, List.length_nil] at ih ⊢; omega
theorem rgv_append (l m : List Rg) : rgv (l ++ m) = rgv l ++ rgv m := by simp [rgv, List.flatMap_append]
theorem rgv_from (l : List Rg) (k : Nat) (h : k < l.length) : (rgv l)[2 * k]? = some (.int .i64 l[k].1) := by
  induction l generalizing k with
  | nil => simp at h
  | cons r l ih =>
    cases k with
    | zero => simp [rgv]
    | succ k =>
      have := ih k (by simpa using h)
      simp only [rgv, List.flatMap_cons] at this ⊢
      rw [show 2 * (k + 1) = 2 * k + 2 from by omega]
      simpa using this
theorem rgv_to (l : List Rg) (k : Nat) (h : k < l.length) : (rgv l)[2 * k + 1]? = some (.int .i64 l[k].2) := by
  induction l generalizing k with
  | nil => simp at h
  | cons r l ih =>
    cases k with
    | zero => simp [rgv]
    | succ k =>
      have := ih k (by simpa using h)
      simp only [rgv, List.flatMap_cons] at this ⊢
      rw [show 2 * (k + 1) + 1 = 2 * k + 1 + 2 from by omega]
      simpa using this
theorem rgv_one (l : List Rg) : ∀ u ∈ rgv l, u.oneCell' = true := by
  intro u hu
  obtain ⟨r, _, hr⟩ := List.mem_flatMap.1 hu
  simp at hr
  rcases hr with rfl | rfl <;> rfl
/-- Where a slice of ranges that is not empty lies, and its ends. -/
theorem Reads.rg {w : World} {B : Nat} {A : Option Addr} {l : List Rg} (h : Reads w B 2 A l.length (rgv l)) (hn : 0 < l.length) :
    ∃ b off, A = some ⟨b, off, none⟩ ∧ b < B ∧ ∀ k (hk : k < l.length), w.cell? ⟨b, off + k * 2, none⟩ = some (.int .i64 l[k].1) ∧ w.cell? ⟨b, off + k * 2 + 1, none⟩ = some (.int .i64 l[k].2) := by
  obtain ⟨⟨b, off, spot⟩, rfl, hb, hc⟩ := h.2 hn
  have hl := h.1
  have h0 := hc 0 _ (List.getElem?_eq_getElem (show 0 < (rgv l).length by omega))
  have hspot : spot = none := by simpa [Addr.add] using World.cell?_spot h0
  subst hspot
  have key : ∀ j u, (rgv l)[j]? = some u → w.cell? ⟨b, off + j, none⟩ = some u := by
    intro j u hu
    have := hc j u hu
    unfold Addr.add at this
    by_cases hj : j = 0
    · subst hj; simpa using this
    · simpa [hj] using this
  exact ⟨b, off, rfl, hb, fun k hk => ⟨by have := key _ _ (rgv_from l k hk); rwa [Nat.mul_comm] at this, by have := key _ _ (rgv_to l k hk); rwa [← Nat.add_assoc, Nat.mul_comm] at this⟩⟩

theorem Reads.here2 {w : World} {B n size : Nat} {A : Option Addr} {xs : List Value} (h : Reads w B size A n xs) (hs : 0 < size := by omega) : Reads w w.heap.size size A n xs :=
  ⟨h.1, fun hn => by
    obtain ⟨ad, e, _, hc⟩ := h.2 hn
    have hl := h.1
    have hp : 0 < n * size := Nat.mul_pos hn hs
    have h0 := lt_of_cell (hc 0 _ (List.getElem?_eq_getElem (show 0 < xs.length by omega)))
    rw [block_of_add] at h0
    exact ⟨ad, e, h0, hc⟩⟩

/-- Is the number one of the list's? -/
def hasR (l : List Rg) (n : Int) : Bool := l.any fun r => decide (0 ≤ n) && decide (r.1 ≤ n) && decide (n < r.2)
theorem hasR_iff (l : List Rg) (n : Int) : hasR l n = true ↔ memR l n := by
  unfold hasR memR
  rw [List.any_eq_true]
  simp only [Bool.and_eq_true, decide_eq_true_eq]
  constructor
  · rintro ⟨r, hr, ⟨h0, h1⟩, h2⟩
    exact ⟨h0, r, hr, h1, h2⟩
  · rintro ⟨h0, r, hr, h1, h2⟩
    exact ⟨r, hr, ⟨h0, h1⟩, h2⟩
theorem hasR_take (l : List Rg) (n : Int) (k : Nat) (h : k < l.length) : hasR (l.take (k + 1)) n = (hasR (l.take k) n || (decide (0 ≤ n) && decide (l[k].1 ≤ n) && decide (n < l[k].2))) := by
  rw [List.take_succ_eq_append_getElem h, hasR, List.any_append]
  simp [hasR]
theorem hasR_hit (l : List Rg) (n : Int) (k : Nat) (h : k < l.length) (h0 : 0 ≤ n) (h1 : l[k].1 ≤ n) (h2 : n < l[k].2) : hasR l n = true :=
  (hasR_iff l n).2 ⟨h0, l[k], List.getElem_mem h, h1, h2⟩

set_option maxHeartbeats 800000 in
theorem refHas_any (l : List Rg) (n : Int) (A : Option Addr) (B c : Nat) (w : World) (hl : l.length ≤ 9223372036854775807) (h : Reads w B 2 A l.length (rgv l)) :
    Calls Try.prog 26 #[.slice A l.length c, .int .i64 n] w fun e w' => e = .returned (.bool (hasR l n)) ∧ w = w' := by
  go_enter Try.func26, Try.ntmps26
  go_wp2
  go_loop [5] (fun i => ∃ k : Nat, k ≤ l.length ∧ i = .int .i64 k ∧ Hid (hasR (l.take k) n = false)) (fun i => l.length - (intOf i).toNat)
  case atStart => exact ⟨0, Nat.zero_le _, rfl, rfl⟩
  case round =>
    obtain ⟨k, hk, rfl, HF⟩ := hrel
    by_cases hlt : k < l.length
    · obtain ⟨b, off, rfl, hbB, hc⟩ := h.rg (by omega)
      obtain ⟨h1, h2⟩ := hc k hlt
      clear hc
      have hi : (k : Int) < (l.length : Int) := by omega
      have HT := Lib.hid (hasR_take l n k hlt)
      have HH := Lib.hid (hasR_hit l n k hlt)
      generalize l[k].1 = x at *
      generalize l[k].2 = y at *
      by_cases h0 : 0 ≤ n
      · by_cases hx : x ≤ n
        · by_cases hy : n < y
          · have HR := Lib.hid (HH.out h0 hx hy)
            go_wp2
            go_ret
            exact ⟨by rw [HR.out]; rfl, rfl⟩
          · have hy' : y ≤ n := by omega
            have HR : Hid (hasR (l.take (k + 1)) n = false) := by
              show _ = _
              rw [HT.out, HF.out]
              simp [hy]
            go_wp2
            go_round
            case rel => exact ⟨k + 1, by omega, by go_num, HR⟩
            case measure => simp [intOf]; omega
        · have hx' : n < x := by omega
          have HR : Hid (hasR (l.take (k + 1)) n = false) := by
            show _ = _
            rw [HT.out, HF.out]
            simp [hx]
          go_wp2
          go_round
          case rel => exact ⟨k + 1, by omega, by go_num, HR⟩
          case measure => simp [intOf]; omega
      · have h0' : n < 0 := by omega
        have HR : Hid (hasR (l.take (k + 1)) n = false) := by
          show _ = _
          rw [HT.out, HF.out]
          simp [h0]
        go_wp2
        go_round
        case rel => exact ⟨k + 1, by omega, by go_num, HR⟩
        case measure => simp [intOf]; omega
    · obtain rfl : k = l.length := by omega
      have hf := HF.out
      rw [List.take_length] at hf
      have HE := Lib.hid hf
      clear hf
      go_wp2
      go_ret
      exact ⟨by rw [HE.out]; rfl, rfl⟩

set_option maxHeartbeats 800000 in
theorem refSame_any (l m : List Rg) (A A' : Option Addr) (B B' c c' : Nat) (w : World) (hl : l.length ≤ 9223372036854775807) (hm : m.length ≤ 9223372036854775807) (h : Reads w B 2 A l.length (rgv l)) (h' : Reads w B' 2 A' m.length (rgv m)) :
    Calls Try.prog 14 #[.slice A l.length c, .slice A' m.length c'] w fun e w' => e = .returned (.bool (decide (l = m))) ∧ Below w.heap.size w w' := by
  by_cases hlen : l.length = m.length
  · have hb : ((l.length : Int) != (m.length : Int)) = false := by rw [bne_eq_false_iff_eq]; omega
    have HL := Lib.hid hlen
    clear hlen
    go_enter Try.func14, Try.ntmps14
    go_wp2
    go_loopw [5] (fun i wr => ∃ k : Nat, k ≤ l.length ∧ i = .int .i64 k ∧ Hid (l.take k = m.take k) ∧ Below w.heap.size w wr) (fun i _ => l.length - (intOf i).toNat)
    case atStart => exact ⟨0, Nat.zero_le _, rfl, by simp [Hid], Below.refl _ _⟩
    case round =>
      obtain ⟨k, hk, rfl, ht, hbel⟩ := hrel
      by_cases hlt : k < l.length
      · have hlt' : k < m.length := by have := HL.out; omega
        obtain ⟨b, off, rfl, hbB, hc⟩ := (h.here2.below hbel).rg (by omega)
        obtain ⟨b', off', rfl, hbB', hc'⟩ := (h'.here2.below hbel).rg (by omega)
        have hi : (k : Int) < (l.length : Int) := by omega
        have hi' : (k : Int) < (m.length : Int) := by omega
        obtain ⟨x1, x2⟩ := hc k hlt
        obtain ⟨y1, y2⟩ := hc' k hlt'
        clear hc hc'
        by_cases hxy : l[k] = m[k]
        · have HX := Lib.hid hxy
          have hd1 : (l[k].1 == m[k].1) = true := by rw [beq_iff_eq, hxy]
          have hd2 : (l[k].2 == m[k].2) = true := by rw [beq_iff_eq, hxy]
          clear hxy
          go_wp2
          go_quiet (fail)
          go_wp2
          go_roundw
          case rel =>
            refine ⟨k + 1, by omega, by go_num, ?_, below_drewN hbel _⟩
            show l.take (k + 1) = m.take (k + 1)
            rw [List.take_succ_eq_append_getElem hlt, List.take_succ_eq_append_getElem hlt', ht.out, HX.out]
          case measure => simp [intOf]; omega
        · have hne : decide (l = m) = false := by
            rw [decide_eq_false_iff_not]
            rintro rfl
            exact hxy rfl
          have HN := Lib.hid hne
          have hd : (l[k].1 == m[k].1) = false ∨ (l[k].1 == m[k].1) = true ∧ (l[k].2 == m[k].2) = false := by
            by_cases h1 : l[k].1 = m[k].1
            · exact .inr ⟨by rw [beq_iff_eq]; exact h1, by rw [beq_eq_false_iff_ne]; exact fun h2 => hxy (Prod.ext h1 h2)⟩
            · exact .inl (by rw [beq_eq_false_iff_ne]; exact h1)
          clear hxy hne
          rcases hd with hd1 | ⟨hd1, hd2⟩
          all_goals
            go_wp2
            go_quiet (fail)
            go_wp2
            go_ret
            rw [HN.out]
            exact ⟨rfl, below_drewN hbel _⟩
      · have hk' : k = l.length := by omega
        have he : decide (l = m) = true := by
          rw [decide_eq_true_iff]
          have := ht.out
          rwa [List.take_of_length_le (by omega), List.take_of_length_le (by have := HL.out; omega)] at this
        have HE := Lib.hid he
        clear he hk'
        go_wp2
        go_ret
        rw [HE.out]
        exact ⟨rfl, hbel⟩
  · have hb : ((l.length : Int) != (m.length : Int)) = true := by rw [bne_iff_ne]; omega
    have hne : decide (l = m) = false := by
      rw [decide_eq_false_iff_not]
      rintro rfl
      exact hlen rfl
    have HN := Lib.hid hne
    clear hne
    go_enter Try.func14, Try.ntmps14
    go_wp2
    go_ret
    rw [HN.out]
    exact ⟨rfl, Below.refl _ _⟩
end Go.Proofs.Ytfdmbgaincmefaa
