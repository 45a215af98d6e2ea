/- Plain facts on the list of keys when each is used, or put in if it isn't there: the last unlike ones. No conditions. -/
import Derived.Test.YtopdfhedifcalaaLrModel
namespace Go.Proofs.Ytopdfhedifcalaa
namespace LU
/-- Each once, the newest first; the row comes newest first. -/
def recent : List Int → List Int
  | [] => []
  | x :: l => x :: (recent l).filter (fun y => decide (y ≠ x))
theorem recent_nodup : ∀ l, (recent l).Nodup
  | [] => .nil
  | x :: l => by
    unfold recent
    exact List.nodup_cons.2 ⟨by simp [List.mem_filter], (recent_nodup l).sublist List.filter_sublist⟩
/-- The law's row, a key more: the first unlike ones, as many as there is room. -/
def took (cap : Nat) (acc : List Int) (x : Int) : List Int := if acc.length < cap ∧ x ∉ acc then acc ++ [x] else acc
theorem took_all (cap : Nat) : ∀ (l acc : List Int), acc.length ≤ cap → l.foldl (took cap) acc = (acc ++ (recent l).filter (fun y => decide (y ∉ acc))).take cap
  | [], acc, h => by simp [recent, List.take_of_length_le h]
  | x :: l, acc, h => by
    have ht : took cap acc x = if acc.length < cap ∧ x ∉ acc then acc ++ [x] else acc := rfl
    rw [List.foldl_cons, ht, show recent (x :: l) = x :: (recent l).filter (fun y => decide (y ≠ x)) from rfl]
    by_cases hx : x ∈ acc
    · rw [if_neg (fun c => c.2 hx), took_all cap l acc h]
      congr 2
      rw [List.filter_cons_of_neg (by simpa using hx), List.filter_filter]
      refine List.filter_congr fun y _ => ?_
      by_cases hy : y ∈ acc
      · simp [hy]
      · have : y ≠ x := fun e => hy (e ▸ hx)
        simp [hy, this]
    by_cases hl : acc.length < cap
    · rw [if_pos ⟨hl, hx⟩, took_all cap l _ (by simp; omega)]
      congr 1
      rw [List.filter_cons_of_pos (by simpa using hx), List.filter_filter, List.append_assoc]
      congr 1
      rw [List.singleton_append]
      congr 1
      refine List.filter_congr fun y _ => ?_
      by_cases hy : y ∈ acc <;> simp [hy]
    · have he : acc.length = cap := by omega
      rw [if_neg (fun c => hl c.1), took_all cap l acc h]
      rw [List.take_append_of_le_length (by omega), List.take_append_of_le_length (by omega)]
theorem took_nil (cap : Nat) (l : List Int) : l.foldl (took cap) [] = (recent l).take cap := by
  rw [took_all cap l [] (Nat.zero_le _), List.nil_append, List.filter_eq_self.2 fun y _ => by simp]
theorem take_filter_out {x : Int} : ∀ {l : List Int} (n : Nat), l.Nodup → x ∉ l.take n → (l.filter (fun y => decide (y ≠ x))).take n = l.take n
  | [], n, _, _ => by simp
  | a :: l, 0, _, _ => by simp
  | a :: l, n + 1, hn, hx => by
    rw [List.nodup_cons] at hn
    rw [List.take_succ_cons, List.mem_cons, not_or] at hx
    rw [List.filter_cons_of_pos (by simpa using fun e => hx.1 (Eq.symm e)), List.take_succ_cons, List.take_succ_cons, take_filter_out n hn.2 hx.2]
theorem take_filter_in {x : Int} : ∀ {l : List Int} (n : Nat), l.Nodup → x ∈ l.take (n + 1) → (l.filter (fun y => decide (y ≠ x))).take n = (l.take (n + 1)).erase x
  | [], n, _, h => by simp at h
  | a :: l, n, hn, hx => by
    rw [List.nodup_cons] at hn
    rw [List.take_succ_cons] at hx ⊢
    by_cases e : a = x
    · subst e
      rw [List.filter_cons_of_neg (by simp), List.erase_cons_head, List.filter_eq_self.2 fun y hy => decide_eq_true (show y ≠ a from fun e => hn.1 (e ▸ hy))]
    · have hx' : x ∈ l.take n := (List.mem_cons.1 hx).resolve_left (Ne.symm e)
      rw [List.filter_cons_of_pos (by simpa using e), List.erase_cons_tail (by simpa using e)]
      cases n with
      | zero => simp at hx'
      | succ n => rw [List.take_succ_cons, take_filter_in n hn.2 hx']
/-- Behind the keys `rev` (newest first), none pinned: the list holds the last unlike ones. -/
structure Hits (s : LU) (rev : List Int) : Prop where
  ok : Ok s
  free : ∀ x ∈ s.items, x.pins = 0
  keys : s.keys = ((recent rev).take s.cap).reverse
theorem erase_reverse {x : Int} {l : List Int} (h : l.Nodup) : l.reverse.erase x = (l.erase x).reverse := by
  have hr : l.reverse.Nodup := List.pairwise_reverse.2 (List.Pairwise.imp (fun e => Ne.symm e) h)
  rw [List.Nodup.erase_eq_filter h, List.Nodup.erase_eq_filter hr, List.filter_reverse]
theorem Hits.has {s : LU} {rev : List Int} (h : Hits s rev) (x : Int) : s.has x = decide (x ∈ (recent rev).take s.cap) := by
  rw [Bool.eq_iff_iff, has_keys, h.keys, List.mem_reverse, decide_eq_true_eq]
theorem Hits.use {s : LU} {rev : List Int} (h : Hits s rev) {x : Int} (hx : x ∈ (recent rev).take s.cap) : (s.use x).2 = true ∧ Hits (s.use x).1 (x :: rev) := by
  have hh : s.has x = true := by rw [h.has]; exact decide_eq_true hx
  have ho := h.ok.use x
  have hc := cap_use s x
  have hu : ∃ y, s.get x = some y := Option.isSome_iff_exists.1 (by rw [← has_get]; exact hh)
  obtain ⟨y, hy⟩ := hu
  obtain ⟨hym, hyk⟩ := get_some hy
  have he : s.use x = ((s.out x).put y, true) := by unfold LU.use; rw [hy]
  rw [he] at ho hc ⊢
  refine ⟨rfl, ho, fun z hz => ?_, ?_⟩
  · rcases List.mem_append.1 hz with hz | hz
    · exact h.free z (List.mem_of_mem_eraseP hz)
    · rw [List.mem_singleton.1 hz]; exact h.free y hym
  · show ((s.out x).put y).keys = _
    rw [hc]
    have hcap : ∃ n, s.cap = n + 1 := ⟨s.cap - 1, by
      have := List.length_pos_of_mem hx
      rw [List.length_take] at this
      omega⟩
    obtain ⟨n, hn⟩ := hcap
    rw [hn] at hx
    rw [keys_put, keys_out, h.keys, hn, hyk, erase_reverse ((recent_nodup rev).sublist (List.take_sublist _ _))]
    show _ = (List.take (n + 1) (x :: (recent rev).filter (fun y => decide (y ≠ x)))).reverse
    rw [List.take_succ_cons, List.reverse_cons, take_filter_in n (recent_nodup rev) hx]
theorem Hits.add {s : LU} {rev : List Int} (h : Hits s rev) (hpos : 0 < s.cap) {x : Int} (hx : x ∉ (recent rev).take s.cap) :
    Hits (s.add x).1 (x :: rev) ∧ (s.add x).2.2.2 = 0 ∧ (s.add x).2.2.1 = decide (((recent rev).take s.cap).length = s.cap) ∧
      (((recent rev).take s.cap).length = s.cap → ((recent rev).take s.cap).getLast? = some (s.add x).2.1) := by
  have hh : ¬ s.has x = true := by rw [h.has]; simpa using hx
  have ho := h.ok.add x
  have hc := cap_add s x
  have hlen : ((recent rev).take s.cap).length = s.items.length := by rw [← keys_length, h.keys, List.length_reverse]
  obtain ⟨n, hn⟩ : ∃ n, s.cap = n + 1 := ⟨s.cap - 1, by omega⟩
  have hgoal : (List.take s.cap (recent (x :: rev))).reverse = ((recent rev).take n).reverse ++ [x] := by
    rw [hn]
    show (List.take (n + 1) (x :: (recent rev).filter (fun y => decide (y ≠ x)))).reverse = _
    rw [List.take_succ_cons, List.reverse_cons, take_filter_out n (recent_nodup rev) (fun c => hx (by rw [hn]; exact List.take_subset_take_left _ (Nat.le_succ n) c))]
  by_cases hl : s.items.length = s.cap
  · obtain ⟨y, l, hyl⟩ : ∃ y l, s.items = y :: l := by
      cases hi : s.items with
      | nil => rw [hi] at hl; simp at hl; omega
      | cons y l => exact ⟨y, l, rfl⟩
    have hold : s.oldest = some y := by unfold LU.oldest; rw [hyl, List.find?_cons_of_pos]; simpa using h.free y (by rw [hyl]; exact List.mem_cons_self)
    have he : s.add x = ((s.out y.key).put ⟨x, 0, false⟩, y.key, true, 0) := by unfold LU.add; rw [if_neg hh, if_pos hl, hold]
    have hk : s.keys = y.key :: l.map It.key := by unfold LU.keys; rw [hyl]; rfl
    have hr : (recent rev).take s.cap = (l.map It.key).reverse ++ [y.key] := by rw [← List.reverse_reverse (List.take _ _), ← h.keys, hk, List.reverse_cons]
    rw [he] at ho hc ⊢
    refine ⟨⟨ho, fun z hz => ?_, ?_⟩, rfl, by rw [hlen]; exact (decide_eq_true hl).symm, fun _ => by rw [hr]; simp⟩
    · rcases List.mem_append.1 hz with hz | hz
      · exact h.free z (List.mem_of_mem_eraseP hz)
      · rw [List.mem_singleton.1 hz]
    · show ((s.out y.key).put _).keys = _
      have hn2 : (recent rev).take n = (l.map It.key).reverse := by
        have : (recent rev).take n = ((recent rev).take s.cap).take n := by rw [List.take_take, Nat.min_eq_left (by omega)]
        rw [this, hr, List.take_append_of_le_length (by have : l.length + 1 = s.cap := by rw [← hl, hyl]; rfl
                                                        simp; omega), List.take_of_length_le (by have : l.length + 1 = s.cap := by rw [← hl, hyl]; rfl
                                                                                                 simp; omega)]
      rw [hc, hgoal, keys_put, keys_out, hk, List.erase_cons_head, hn2, List.reverse_reverse]
  · have he : s.add x = (s.put ⟨x, 0, false⟩, 0, false, 0) := by unfold LU.add; rw [if_neg hh, if_neg hl]
    rw [he] at ho hc ⊢
    refine ⟨⟨ho, fun z hz => ?_, ?_⟩, rfl, by rw [hlen]; exact (decide_eq_false hl).symm, fun e => absurd (hlen.symm.trans e) hl⟩
    · rcases List.mem_append.1 hz with hz | hz
      · exact h.free z hz
      · rw [List.mem_singleton.1 hz]
    · show (s.put _).keys = _
      have hlt : (recent rev).length ≤ n := by
        rw [List.length_take] at hlen
        have := h.ok.len
        omega
      rw [hc, hgoal, keys_put, h.keys, List.take_of_length_le (by omega), List.take_of_length_le hlt]
end LU
end Go.Proofs.Ytopdfhedifcalaa
