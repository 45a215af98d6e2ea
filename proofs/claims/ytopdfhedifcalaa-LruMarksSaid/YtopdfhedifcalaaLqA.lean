/- The document's list in memory: its capacity and its row of items. Contracts of octavoref06's At and Oldest over the abstract list. Conditions: those that each theorem names. -/
import Derived.Test.YtopdfhedifcalaaProg
import Derived.Test.YtopdfhedifcalaaKind
import Derived.Test.YtopdfhedifcalaaLrIdx
import Derived.WalkKit
import Derived.Lib.Case
import Derived.Lib.Hide
import Derived.IntWalk
namespace Go.Proofs.Ytopdfhedifcalaa
open Go.RowKit

def encI (x : It) : List Value := [.int .i64 x.key, .int .i64 (x.pins : Int), .bool x.marked]
theorem encI_len (x : It) : (encI x).length = 3 := rfl
theorem encI_one (l : List It) : ∀ u ∈ flat encI l, u.oneCell' = true := flat_cells (fun x u hu => by
  simp [encI] at hu
  rcases hu with rfl | rfl | rfl <;> rfl) l
/-- The document's list stands in block p, its row is v. -/
structure RefL (w : World) (F : Nat → Prop) (p : Nat) (v : Value) (s : LU) : Prop where
  blk : Blk w p 31 #[.int .i64 (s.cap : Int), v]
  fp : F p
  row : Row w F 61 3 encI v s.items
  ok : s.Ok
  cap : s.cap ≤ 4096
def RefAtL (w : World) (F : Nat → Prop) (p : Nat) (s : LU) : Prop := ∃ v, RefL w F p v s
section
variable {w w' : World} {F G : Nat → Prop} {p : Nat} {v : Value} {s : LU}
theorem RefL.only (h : RefL w F p v s) (ho : Only G w w') (hn : ∀ k, F k → ¬ G k) : RefL w' F p v s := ⟨h.blk.only ho (hn p h.fp), h.fp, h.row.only ho hn, h.ok, h.cap⟩
theorem RefL.mono (h : RefL w F p v s) (hF : ∀ k, F k → G k) : RefL w G p v s := ⟨h.blk, hF p h.fp, h.row.mono hF, h.ok, h.cap⟩
theorem RefAtL.only (h : RefAtL w F p s) (ho : Only G w w') (hn : ∀ k, F k → ¬ G k) : RefAtL w' F p s := by
  obtain ⟨v, h⟩ := h
  exact ⟨v, h.only ho hn⟩
theorem RefAtL.mono (h : RefAtL w F p s) (hF : ∀ k, F k → G k) : RefAtL w G p s := by
  obtain ⟨v, h⟩ := h
  exact ⟨v, h.mono hF⟩
theorem RefAtL.below (h : RefAtL w F p s) (hb : Below w.heap.size w w') : RefAtL w' F p s := h.only (Only.of_below (F := fun _ => False) hb) fun _ _ => id
theorem RefL.cells (h : RefL w F p v s) : w.cell? ⟨p, 0, none⟩ = some (.int .i64 (s.cap : Int)) ∧ w.cell? ⟨p, 1, none⟩ = some v := by
  refine ⟨?_, ?_⟩ <;> rw [h.blk.cell] <;> rfl
theorem RefL.len (h : RefL w F p v s) : s.items.length ≤ 4096 := Nat.le_trans h.ok.len h.cap
theorem it_cells {l : List It} (h : Row w F 61 3 encI v l) (hn : 0 < l.length) :
    ∃ g cap, v = .slice (some ⟨g, 0, none⟩) l.length cap ∧ F g ∧ g < w.heap.size ∧ l.length ≤ cap ∧ cap ≤ maxLen ∧
      (∀ k (hl : k < l.length), w.cell? ⟨g, k * 3, none⟩ = some (.int .i64 l[k].key) ∧ w.cell? ⟨g, k * 3 + 1, none⟩ = some (.int .i64 (l[k].pins : Int)) ∧ w.cell? ⟨g, k * 3 + 2, none⟩ = some (.bool l[k].marked)) ∧ ∀ i, w.frozen? ⟨g, i, none⟩ = false := by
  obtain ⟨g, cap, h1, h2, h3, h4, h5, h6, h7⟩ := h.form encI_len hn
  exact ⟨g, cap, h1, h2, h3, h4, h5, fun k hl => ⟨by simpa using h6 k hl 0 _ rfl, h6 k hl 1 _ rfl, h6 k hl 2 _ rfl⟩, h7⟩
end
namespace LU
/-- Where the key lies; -1: nowhere. -/
def idx (s : LU) (k : Int) : Int := match s.items.findIdx? (fun x => x.key == k) with
  | some i => (i : Int)
  | none => -1
/-- Where the oldest lies that isn't pinned; -1: there is none. -/
def old (s : LU) : Int := match s.items.findIdx? (fun x => x.pins == 0) with
  | some i => (i : Int)
  | none => -1
theorem idx_some {s : LU} {k : Int} {i : Nat} (hi : i < s.items.length) (hk : s.items[i].key = k) (hj : ∀ j (h : j < i), s.items[j].key ≠ k) : s.idx k = i := by
  have : s.items.findIdx? (fun x => x.key == k) = some i := List.findIdx?_eq_some_iff_getElem.2 ⟨hi, by simpa using hk, fun j h => by simpa using hj j h⟩
  unfold idx
  rw [this]
theorem idx_none {s : LU} {k : Int} (hj : ∀ j (h : j < s.items.length), s.items[j].key ≠ k) : s.idx k = -1 := by
  have : s.items.findIdx? (fun x => x.key == k) = none := List.findIdx?_eq_none_iff.2 fun x hx => by
    obtain ⟨j, h, rfl⟩ := List.getElem_of_mem hx
    simpa using hj j h
  unfold idx
  rw [this]
theorem old_some {s : LU} {i : Nat} (hi : i < s.items.length) (hk : s.items[i].pins = 0) (hj : ∀ j (h : j < i), s.items[j].pins ≠ 0) : s.old = i ∧ s.oldest = some s.items[i] := by
  have h1 : s.items.findIdx? (fun x => x.pins == 0) = some i := List.findIdx?_eq_some_iff_getElem.2 ⟨hi, by simpa using hk, fun j h => by simpa using hj j h⟩
  refine ⟨by unfold old; rw [h1], ?_⟩
  unfold oldest
  exact List.find?_eq_some_iff_getElem.2 ⟨by simpa using hk, i, hi, rfl, fun j h => by simpa using hj j h⟩
theorem old_none {s : LU} (hj : ∀ j (h : j < s.items.length), s.items[j].pins ≠ 0) : s.old = -1 ∧ s.oldest = none := by
  have h1 : s.items.findIdx? (fun x => x.pins == 0) = none := List.findIdx?_eq_none_iff.2 fun x hx => by
    obtain ⟨j, h, rfl⟩ := List.getElem_of_mem hx
    simpa using hj j h
  refine ⟨by unfold old; rw [h1], ?_⟩
  unfold oldest
  exact List.find?_eq_none.2 fun x hx => by
    obtain ⟨j, h, rfl⟩ := List.getElem_of_mem hx
    simpa using hj j h
end LU
section
variable {w : World} {F : Nat → Prop} {p : Nat} {s : LU}
set_option maxHeartbeats 800000 in
theorem ref_at (h : RefAtL w F p s) (k : Int) :
    Calls Try.prog 12 #[.pointer (some ⟨p, 0, none⟩), .int .i64 k] w fun e w' => e = .returned (.int .i64 (s.idx k)) ∧ w = w' := by
  obtain ⟨v, h⟩ := h
  obtain ⟨A, c, hv, hlc, hcm, _⟩ := h.row.value
  have c1 := h.cells.2
  have HR := Lib.hid h
  unfold maxLen at hcm
  rw [hv] at c1
  clear h
  go_enter Try.func12, Try.ntmps12
  go_wp2
  go_loop [5] (fun i => ∃ n : Nat, n ≤ s.items.length ∧ i = .int .i64 n ∧ Hid (∀ j (hj : j < n) (hl : j < s.items.length), (s.items[j]'hl).key ≠ k)) (fun i => s.items.length - (intOf i).toNat)
  case atStart => exact ⟨0, Nat.zero_le _, rfl, fun j hj => by omega⟩
  case round =>
    obtain ⟨n, hn, rfl, HN⟩ := hrel
    by_cases hlt : n < s.items.length
    · obtain ⟨g, cap, hv2, _, hgw, _, _, hc, _⟩ := it_cells HR.out.row (by omega)
      rw [hv] at hv2
      obtain ⟨rfl, rfl⟩ : A = some ⟨g, 0, none⟩ ∧ c = cap := by simpa using hv2
      obtain ⟨x0, _, _⟩ := hc n hlt
      have hi : (n : Int) < (s.items.length : Int) := by omega
      clear hc hv2
      have HN1 : Hid (s.items[n].key ≠ k → ∀ j (hj : j < n + 1) (hl : j < s.items.length), (s.items[j]'hl).key ≠ k) := Lib.hid (fun he j hj hl => by
        rcases Nat.lt_or_eq_of_le (Nat.le_of_lt_succ hj) with h1 | rfl
        · exact HN.out j h1 hl
        · exact he)
      have HY : Hid (s.items[n].key = k → s.idx k = n) := Lib.hid (fun he => LU.idx_some hlt he fun j hj => HN.out j hj (by omega))
      generalize s.items[n].key = x at *
      by_cases he : x = k
      · have hb : (x == k) = true := by simpa using he
        have HE := Lib.hid (HY.out he)
        clear he HY HN1
        go_wp2
        go_ret
        rw [HE.out]
        exact ⟨rfl, rfl⟩
      · have hb : (x == k) = false := by simpa using he
        have HE := Lib.hid (HN1.out he)
        clear he HY HN1
        go_wp2
        go_round
        case rel => exact ⟨n + 1, by omega, by go_num, HE⟩
        case measure => simp [intOf]; omega
    · obtain rfl : n = s.items.length := by omega
      have HE : Hid (s.idx k = -1) := Lib.hid (LU.idx_none fun j hj => HN.out j hj hj)
      go_wp2
      go_ret
      rw [HE.out]
      exact ⟨rfl, rfl⟩

set_option maxHeartbeats 800000 in
theorem ref_oldest (h : RefAtL w F p s) :
    Calls Try.prog 28 #[.pointer (some ⟨p, 0, none⟩)] w fun e w' => e = .returned (.int .i64 s.old) ∧ w = w' := by
  obtain ⟨v, h⟩ := h
  obtain ⟨A, c, hv, hlc, hcm, _⟩ := h.row.value
  have c1 := h.cells.2
  have HR := Lib.hid h
  unfold maxLen at hcm
  rw [hv] at c1
  clear h
  go_enter Try.func28, Try.ntmps28
  go_wp2
  go_loop [3] (fun i => ∃ n : Nat, n ≤ s.items.length ∧ i = .int .i64 n ∧ Hid (∀ j (hj : j < n) (hl : j < s.items.length), (s.items[j]'hl).pins ≠ 0)) (fun i => s.items.length - (intOf i).toNat)
  case atStart => exact ⟨0, Nat.zero_le _, rfl, fun j hj => by omega⟩
  case round =>
    obtain ⟨n, hn, rfl, HN⟩ := hrel
    by_cases hlt : n < s.items.length
    · obtain ⟨g, cap, hv2, _, hgw, _, _, hc, _⟩ := it_cells HR.out.row (by omega)
      rw [hv] at hv2
      obtain ⟨rfl, rfl⟩ : A = some ⟨g, 0, none⟩ ∧ c = cap := by simpa using hv2
      obtain ⟨_, x1, _⟩ := hc n hlt
      have hi : (n : Int) < (s.items.length : Int) := by omega
      clear hc hv2
      have HN1 : Hid (s.items[n].pins ≠ 0 → ∀ j (hj : j < n + 1) (hl : j < s.items.length), (s.items[j]'hl).pins ≠ 0) := Lib.hid (fun he j hj hl => by
        rcases Nat.lt_or_eq_of_le (Nat.le_of_lt_succ hj) with h1 | rfl
        · exact HN.out j h1 hl
        · exact he)
      have HY : Hid (s.items[n].pins = 0 → s.old = n) := Lib.hid (fun he => (LU.old_some hlt he fun j hj => HN.out j hj (by omega)).1)
      generalize s.items[n].pins = x at *
      by_cases he : x = 0
      · have hb : ((x : Int) == 0) = true := by simpa using he
        have HE := Lib.hid (HY.out he)
        clear he HY HN1
        generalize (x : Int) = y at *
        go_wp2
        go_ret
        rw [HE.out]
        exact ⟨rfl, rfl⟩
      · have hb : ((x : Int) == 0) = false := by rw [beq_eq_false_iff_ne]; omega
        have HE := Lib.hid (HN1.out he)
        clear he HY HN1
        generalize (x : Int) = y at *
        go_wp2
        go_round
        case rel => exact ⟨n + 1, by omega, by go_num, HE⟩
        case measure => simp [intOf]; omega
    · obtain rfl : n = s.items.length := by omega
      have HE : Hid (s.old = -1) := Lib.hid (LU.old_none fun j hj => HN.out j hj hj).1
      go_wp2
      go_ret
      rw [HE.out]
      exact ⟨rfl, rfl⟩
end
end Go.Proofs.Ytopdfhedifcalaa
