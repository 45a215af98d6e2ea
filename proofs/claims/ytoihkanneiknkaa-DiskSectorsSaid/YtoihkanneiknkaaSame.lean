/- Contract of octavoref01.Same: are two slices of bytes the same? Conditions: the slices read as the lists that are named. -/
import Derived.Test.YtoihkanneiknkaaProg
import Derived.Test.YtoihkanneiknkaaMath
import Derived.WalkKit
import Derived.WalkSpells
import Derived.WalkLawsBesides
import Derived.Lib.Hide
import Derived.BigQuiet
import Derived.Deep.QuietTactic
namespace Go.Proofs.Ytoihkanneiknkaa
open Go.RowKit

set_option maxHeartbeats 400000 in
theorem same_any (l m : List UInt8) (A A' : Option Addr) (B B' c c' : Nat) (w : World) (hl : l.length ≤ maxLen) (hm : m.length ≤ maxLen) (h : Reads w B 1 A l.length (bv l)) (h' : Reads w B' 1 A' m.length (bv m)) :
    Calls Try.prog 20 #[.slice A l.length c, .slice A' m.length c'] w fun e w' => e = .returned (.bool (decide (l = m))) ∧ Below w.heap.size w w' := by
  unfold maxLen at hl hm
  by_cases hlen : l.length = m.length
  · have hb : ((l.length : Int) != (m.length : Int)) = false := by rw [bne_eq_false_iff_eq]; omega
    have HL := Lib.hid hlen
    clear hlen
    go_enter Try.func20, Try.ntmps20
    go_wp2
    go_loopw [5] (fun i wr => ∃ k : Nat, k ≤ l.length ∧ i = .int .i64 k ∧ Hid (l.take k = m.take k) ∧ Below w.heap.size w wr) (fun i _ => l.length - (intOf i).toNat)
    case atStart => exact ⟨0, Nat.zero_le _, rfl, by simp [Hid], Below.refl _ _⟩
    case round =>
      obtain ⟨k, hk, rfl, ht, hbel⟩ := hrel
      by_cases hlt : k < l.length
      · obtain ⟨b, off, rfl, hbB, hc⟩ := (h.over hbel).form (by omega)
        obtain ⟨b', off', rfl, hbB', hc'⟩ := (h'.over hbel).form (by have := HL.out; omega)
        have hlt' : k < m.length := by have := HL.out; omega
        have hi : (k : Int) < (l.length : Int) := by omega
        have hi' : (k : Int) < (m.length : Int) := by omega
        have hx := hc k _ (bv_get l k hlt)
        have hx' := hc' k _ (bv_get m k (by have := HL.out; omega))
        by_cases hxy : l[k] = m[k]
        · have hd : ((l[k].toNat : Int) != (m[k].toNat : Int)) = false := by rw [bne_eq_false_iff_eq, hxy]
          have HX := Lib.hid hxy
          clear hxy
          go_wp2
          go_quiet (fail)
          go_wp2
          go_roundw
          case rel =>
            refine ⟨k + 1, by omega, by go_num, ?_, below_drewN hbel _⟩
            show l.take (k + 1) = m.take (k + 1)
            rw [List.take_succ_eq_append_getElem hlt, List.take_succ_eq_append_getElem hlt', ht.out, HX.out]
          case measure => simp [intOf]; omega
        · have hd : ((l[k].toNat : Int) != (m[k].toNat : Int)) = true := by
            rw [bne_iff_ne]
            intro e
            exact hxy (UInt8.toNat_inj.1 (by omega))
          have hne : decide (l = m) = false := by
            rw [decide_eq_false_iff_not]
            rintro rfl
            exact hxy rfl
          have HX := Lib.hid hxy
          have HN := Lib.hid hne
          clear hxy hne
          go_wp2
          go_quiet (fail)
          go_wp2
          go_ret
          rw [HN.out]
          exact ⟨rfl, below_drewN hbel _⟩
      · have hk' : k = l.length := by omega
        have he : decide (l = m) = true := by
          rw [decide_eq_true_iff]
          have := ht.out
          rwa [List.take_of_length_le (by omega), List.take_of_length_le (by have := HL.out; omega)] at this
        have HE := Lib.hid he
        clear he hk'
        go_wp2
        go_ret
        rw [HE.out]
        exact ⟨rfl, hbel⟩
  · have hb : ((l.length : Int) != (m.length : Int)) = true := by rw [bne_iff_ne]; omega
    have hne : decide (l = m) = false := by
      rw [decide_eq_false_iff_not]
      rintro rfl
      exact hlen rfl
    have HN := Lib.hid hne
    clear hne
    go_enter Try.func20, Try.ntmps20
    go_wp2
    go_ret
    rw [HN.out]
    exact ⟨rfl, Below.refl _ _⟩
end Go.Proofs.Ytoihkanneiknkaa
