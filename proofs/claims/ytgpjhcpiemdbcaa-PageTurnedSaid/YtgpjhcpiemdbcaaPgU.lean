/- Plain facts: a page of which one byte is another isn't a page. Conditions: those that each theorem names. -/
import Derived.Test.YtgpjhcpiemdbcaaCrcSet
import Derived.Test.YtgpjhcpiemdbcaaPgMath
namespace Go.Proofs.Ytgpjhcpiemdbcaa

theorem bare_set_low (l : List UInt8) (k : Nat) (d : UInt8) (hk : k < 8) (hl : l.length = 256) : bare (l.set k d) = (bare l).set k d := by
  unfold bare
  rw [List.take_set, List.drop_set_of_lt (by omega), List.set_append_left _ _ (by rw [List.length_take]; omega)]
theorem bare_set_mid (l : List UInt8) (k : Nat) (d : UInt8) (h8 : 8 ≤ k) (hk : k < 12) : bare (l.set k d) = bare l := by
  unfold bare
  rw [List.drop_set_of_lt (by omega), List.take_set_of_le (by omega)]
theorem bare_set_high (l : List UInt8) (k : Nat) (d : UInt8) (hk : 12 ≤ k) (hl : l.length = 256) : bare (l.set k d) = (bare l).set (k - 4) d := by
  unfold bare
  have h8 : (l.take 8).length = 8 := by rw [List.length_take]; omega
  rw [List.take_set_of_le (by omega), List.drop_set, if_neg (by omega), List.set_append_right _ _ (by omega), h8]
  congr 2
theorem seg_set_out (l : List UInt8) (k : Nat) (d : UInt8) (h : k < 8 ∨ 12 ≤ k) : seg (l.set k d) 8 4 = seg l 8 4 := by
  unfold seg
  rcases h with h | h
  · rw [List.drop_set_of_lt (by omega)]
  · rw [List.drop_set, if_neg (by omega), List.take_set_of_le (by omega)]
theorem seg_set_in (l : List UInt8) (k : Nat) (d : UInt8) (h8 : 8 ≤ k) (h : k < 12) : seg (l.set k d) 8 4 = (seg l 8 4).set (k - 8) d := by
  unfold seg
  rw [List.drop_set, if_neg (by omega), List.take_set]
theorem bare_length (l : List UInt8) (hl : l.length = 256) : (bare l).length = 252 := by
  unfold bare
  rw [List.length_append, List.length_take, List.length_drop]
  omega
theorem bare_get_low (l : List UInt8) (k : Nat) (hk : k < 8) (hl : l.length = 256) : (bare l)[k]? = l[k]? := by
  unfold bare
  rw [List.getElem?_append_left (by rw [List.length_take]; omega), List.getElem?_take_of_lt hk]
theorem bare_get_high (l : List UInt8) (k : Nat) (hk : 12 ≤ k) (hl : l.length = 256) : (bare l)[k - 4]? = l[k]? := by
  unfold bare
  have h8 : (l.take 8).length = 8 := by rw [List.length_take]; omega
  rw [List.getElem?_append_right (by omega), h8, List.getElem?_drop]
  congr 1
  omega
theorem sumOf_set' (l : List UInt8) (k : Nat) (c d : UInt8) (h : l[k]? = some c) (hd : c ≠ d) : sumOf l ≠ sumOf (l.set k d) := by
  obtain ⟨hk, e⟩ := List.getElem?_eq_some_iff.1 h
  exact sumOf_set l k d hk (by rw [e]; exact hd)
/-- With its sum right, and one byte another, its sum is wrong. -/
theorem turned_sum (l : List UInt8) (k : Nat) (c d : UInt8) (hl : l.length = 256) (hk : l[k]? = some c) (hd : c ≠ d) (hs : num (seg l 8 4) = pgSum l) : num (seg (l.set k d) 8 4) ≠ pgSum (l.set k d) := by
  have hk' : k < 256 := by have := (List.getElem?_eq_some_iff.1 hk).1; omega
  unfold pgSum at *
  by_cases h8 : k < 8
  · rw [seg_set_out l k d (.inl h8), bare_set_low l k d h8 hl, hs]
    exact sumOf_set' (bare l) k c d (by rw [bare_get_low l k h8 hl]; exact hk) hd
  · by_cases h12 : 12 ≤ k
    · rw [seg_set_out l k d (.inr h12), bare_set_high l k d h12 hl, hs]
      exact sumOf_set' (bare l) (k - 4) c d (by rw [bare_get_high l k h12 hl]; exact hk) hd
    · rw [seg_set_in l k d (by omega) (by omega), bare_set_mid l k d (by omega) (by omega), ← hs]
      intro e
      have hsl := seg_length l 8 4 (by omega)
      have h1 := digs_num ((seg l 8 4).set (k - 8) d)
      rw [e, List.length_set, digs_num] at h1
      have h2 : ((seg l 8 4).set (k - 8) d)[k - 8]? = some d := by rw [List.getElem?_set_self (by omega)]
      rw [← h1] at h2
      have h3 : (seg l 8 4)[k - 8]? = l[k]? := by
        unfold seg
        rw [List.getElem?_take_of_lt (by omega), List.getElem?_drop]
        congr 1
        omega
      rw [h3, hk] at h2
      injection h2 with h2
      exact hd h2
theorem turned_open (no : Int) (l : List UInt8) (k : Nat) (c d : UInt8) (hn : pgNo no) (hl : l.length = 256) (hk : l[k]? = some c) (hd : c ≠ d) (hs : num (seg l 8 4) = pgSum l) : mOpen no (l.set k d) = (0, [], 5) := by
  unfold mOpen
  rw [if_neg (not_not_intro hn), if_neg (by rw [List.length_set, hl]; simp), if_pos (turned_sum l k c d hl hk hd hs)]
theorem other_open (no other kind : Int) (body : List UInt8) (hn : pgNo no) (hk : pgKind kind) (h : body.length ≤ 244) (hne : other ≠ no) : (mOpen other (pgBytes no.toNat kind.toNat body)).2.2 ≠ 0 := by
  intro h0
  obtain ⟨ho, _, _, _, _, h5, _⟩ := mOpen_ok h0
  refine open_other no.toNat other.toNat kind.toNat body h ?_ ?_ ?_ ?_ h5
  · have := hn.1; have := hn.2; omega
  · have := ho.1; have := ho.2; omega
  · have := hn.1; have := ho.1; omega
  · have := hk.1; have := hk.2; omega
end Go.Proofs.Ytgpjhcpiemdbcaa
