/- Contract of octavoref06's Add over the abstract list. Conditions: those that each theorem names. -/
import Derived.Test.YtopdfhedifcalaaLqC
import Derived.Deep.QuietTactic
import Derived.BigQuiet
import Derived.Deep.DeepCutAuto
namespace Go.Proofs.Ytopdfhedifcalaa
open Go.RowKit
attribute [local go_sem ↓] Go.wp_at_zero Go.wp_at_succ

def newO (k : Int) : Obj := .cells #[.int .i64 k, .int .i64 0, .bool false] 61
/-- What an append of a new item meets, and leaves. -/
structure PushNew (w W : World) (F : Nat → Prop) (p : Nat) (s2 : LU) (k : Int) (A : Option Addr) (n c : Nat) : Prop where
  row : (W.alloc (newO k)).ownsRow 0 61 3 (.slice A n c) n (flat encI s2.items)
  rd : Reads (W.alloc (newO k)) (W.heap.size + 1) 3 (some ⟨W.heap.size, 0, none⟩) 1 [.int .i64 k, .int .i64 0, .bool false]
  cells : ∀ w5, (W.alloc (newO k)).grownBy w5 (Value.slice A n c).ownBlock → w5.cell? ⟨p, 1, none⟩ = some (.slice A n c) ∧ w5.frozen? ⟨p, 1, none⟩ = false
  fin : ∀ v5 w5, w5.ownsRow 0 61 3 v5 (n + 1) (flat encI s2.items ++ [.int .i64 k, .int .i64 0, .bool false]) → (W.alloc (newO k)).grownBy w5 (Value.slice A n c).ownBlock →
    (v5.ownBlock = (Value.slice A n c).ownBlock ∨ v5.ownBlock = some (W.alloc (newO k)).heap.size) → RefAtL (w5.setCell ⟨p, 1, none⟩ v5) (Gr F w (w5.setCell ⟨p, 1, none⟩ v5)) p (s2.put ⟨k, 0, false⟩) ∧ Only F w (w5.setCell ⟨p, 1, none⟩ v5)
  cell : W.cell? ⟨p, 1, none⟩ = some (.slice A n c)
  lt : p < W.heap.size
  b1 : n + 1 ≤ maxLen
  b2 : (n + 1) * 24 ≤ 140737488355328
theorem one_new (k : Int) : ∀ u ∈ [Value.int .i64 k, .int .i64 0, .bool false], u.oneCell' = true := by
  intro u hu
  simp at hu
  rcases hu with rfl | rfl | rfl <;> rfl
theorem push_new {w W : World} {F G : Nat → Prop} {p : Nat} {v : Value} {s2 : LU} {k : Int} (h : RefL W G p v s2) (hok : LU.Ok (s2.put ⟨k, 0, false⟩)) (hO : Only F w W) (hG : ∀ j, G j → Gr F w W j) :
    ∃ A c, v = .slice A s2.items.length c ∧ PushNew w W F p s2 k A s2.items.length c := by
  obtain ⟨A, c, hv, hlc, hcm, -⟩ := h.row.value
  have hrow := h.row.own
  have hne := own_blk_ne h.row.own h.blk (by decide)
  rw [hv] at hrow hne
  have hl := h.len
  refine ⟨A, c, hv, hrow.alloc _, reads_newN W 61 3 [.int .i64 k, .int .i64 0, .bool false] 1 rfl, fun w5 hg => ?_, fun v5 w5 h5 g5 a5 => ?_, by rw [← hv]; exact h.cells.2, h.blk.lt, by unfold maxLen; omega, by omega⟩
  · have hb := (h.blk.alloc (newO k)).grown hg (Ne.symm hne)
    exact ⟨(hb.cell 1).trans (by rw [hv]; rfl), hb.frozen 1⟩
  · have hh := h.pushed ⟨k, 0, false⟩ hok (newO k) h5 (by rw [hv]; exact g5) (by
      rw [hv]
      rcases a5 with a5 | a5
      · exact .inl a5
      · exact .inr (by rw [a5]; simp))
    have hs1 := hO.size
    have hs3 := hh.2.size
    refine ⟨hh.1.mono fun j hj => ?_, hO.trans hh.2 fun j hj hg => ?_⟩
    · rcases hj with hj | hj
      · rcases hG j hj with hj | hj
        · exact .inl hj
        · exact .inr (by omega)
      · exact .inr (by omega)
    · rcases hG j hg with hg | hg
      · exact hg
      · omega
section
variable {w : World} {F : Nat → Prop} {p : Nat} {s : LU}
/-- What the document's Add answers. -/
def addR (s : LU) (k : Int) : Value := .tuple #[.int .i64 (s.add k).2.1, .bool (s.add k).2.2.1, .int .i64 ((s.add k).2.2.2 : Int)]
set_option maxRecDepth 100000 in
set_option maxHeartbeats 3200000 in
theorem ref_add_has (h : RefAtL w F p s) (k : Int) (hh : s.has k = true) :
    Calls Try.prog 26 #[.pointer (some ⟨p, 0, none⟩), .int .i64 k] w (DidL w F p (addR s k) (s.add k).1) := by
  have HAt := Lib.hid (ref_at h k)
  have hok : s.Ok := by obtain ⟨v, h⟩ := h; exact h.ok
  have HT : Hid (RefAtL w (Gr F w w) p s ∧ Only F w w) := Lib.hid ⟨h.mono fun _ hk => .inl hk, Only.refl _ _⟩
  have HE : Hid (s.add k = (s, 0, false, 1)) := Lib.hid (by unfold LU.add; rw [if_pos hh])
  rcases idx_place s k with ⟨i, hi, hk, hx⟩ | ⟨hn, hx⟩
  · rw [hx hok] at HAt
    have hi0 : (0 : Int) ≤ (i : Int) := by omega
    unfold addR
    clear hx h hok hh hk
    go_enter Try.func26, Try.ntmps26
    go_wp2_with (go_at_call 12; refine HAt.out.mono ?_; rintro e w1 ⟨rfl, rfl⟩)
    go_ret3
    rw [HE.out]
    exact ⟨rfl, HT.out⟩
  · rw [hn] at hh; cases hh

set_option maxRecDepth 100000 in
set_option maxHeartbeats 3200000 in
theorem ref_add_free (h : RefAtL w F p s) (k : Int) (hh : s.has k = false) (hl : s.items.length ≠ s.cap) :
    Calls Try.prog 26 #[.pointer (some ⟨p, 0, none⟩), .int .i64 k] w (DidL w F p (addR s k) (s.add k).1) := by
  obtain ⟨i0, hi1, hz0, hz1, hz2⟩ := info_parts itinfo
  have HAt := Lib.hid (ref_at h k)
  rcases idx_place s k with ⟨i, hi, hk, hx⟩ | ⟨hn, hx⟩
  · have : s.has k = true := (LU.has_keys s k).2 (List.mem_map.2 ⟨_, List.getElem_mem hi, hk⟩)
    rw [this] at hh; cases hh
  rw [hx] at HAt
  have HE : Hid (s.add k = (s.put ⟨k, 0, false⟩, 0, false, 0)) := Lib.hid (by unfold LU.add; rw [if_neg (by simp [hh]), if_neg hl])
  obtain ⟨v, h⟩ := h
  have hok2 : LU.Ok (s.put ⟨k, 0, false⟩) := by
    have := h.ok.add k
    rw [HE.out] at this
    exact this
  obtain ⟨A, c, hv, hlc, hcm, -⟩ := h.row.value
  obtain ⟨c0, c1⟩ := h.cells
  rw [hv] at c1
  unfold maxLen at hcm
  have hb : ((s.items.length : Int) == (s.cap : Int)) = false := by rw [beq_eq_false_iff_ne]; omega
  have HPush : Hid (∀ n, PushNew w (w.drewN n) F p s k A s.items.length c) := Lib.hid fun n => by
    obtain ⟨A', c', hv', hp⟩ := push_new (w := w) (k := k) (F := F) (h.only ((Only.refl (fun _ => False) w).drewN n) fun _ _ => id) hok2 ((Only.refl F w).drewN n) fun j hj => .inl hj
    rw [hv] at hv'
    injection hv' with e1 e2 e3
    subst e1 e3
    exact hp
  unfold addR
  clear hx h hn hh hl hv hok2
  go_enter Try.func26, Try.ntmps26
  go_wp2_with (go_at_call 12; refine HAt.out.mono ?_; rintro e w1 ⟨rfl, rfl⟩)
  go_quiet (fail)
  have hP := HPush.out nq
  obtain ⟨W, hW⟩ : ∃ W, W = w.drewN nq := ⟨_, rfl⟩
  rw [← hW] at hP ⊢
  have P5 := hP.cell
  have P6 := hP.lt
  have HP := Lib.hid hP
  clear hP HPush c1 hW c0
  go_wp2_with (at_builtin; refine wpList_append_any _ rfl (.tmp 38) (.tmp 41) 29 rfl 0 61 i0 (.agg #[.int .i64 0, .int .i64 0, .bool false]) 3 24 Try.underlying29 hi1 hz0 hz1 hz2 rfl (by decide) (.slice A s.items.length c) s.items.length _ rfl HP.out.row (W.heap.size + 1) (some ⟨W.heap.size, 0, none⟩) 1 1 [.int .i64 k, .int .i64 0, .bool false] rfl HP.out.rd (one_new k) HP.out.b1 HP.out.b2 (Nat.zero_le _) ?_; intro v5 w5 ho5 hg5 hat5; have hfin := Lib.hid (HP.out.fin v5 w5 ho5 hg5 hat5); obtain ⟨p1, p2⟩ := HP.out.cells w5 hg5; obtain ⟨A5, c5, hv5⟩ := own_val ho5; subst hv5; clear ho5 hg5 hat5)
  go_ret3
  rw [HE.out]
  exact ⟨rfl, hfin.out⟩

set_option maxRecDepth 100000 in
set_option maxHeartbeats 3200000 in
theorem ref_add_full (h : RefAtL w F p s) (k : Int) (hh : s.has k = false) (hl : s.items.length = s.cap) (ho : s.oldest = none) (hold : s.old = -1) :
    Calls Try.prog 26 #[.pointer (some ⟨p, 0, none⟩), .int .i64 k] w (DidL w F p (addR s k) (s.add k).1) := by
  have HAt := Lib.hid (ref_at h k)
  have HOld : Hid (∀ n, Calls Try.prog 28 #[.pointer (some ⟨p, 0, none⟩)] (w.drewN n) fun e w' => e = .returned (.int .i64 (-1)) ∧ w.drewN n = w') := Lib.hid fun n => by
    have := ref_oldest (h.only ((Only.refl (fun _ => False) w).drewN n) fun _ _ => id)
    rw [hold] at this
    exact this
  have HT : Hid (∀ n, RefAtL (w.drewN n) (Gr F w (w.drewN n)) p s ∧ Only F w (w.drewN n)) := Lib.hid fun n => ⟨(h.only ((Only.refl (fun _ => False) w).drewN n) fun _ _ => id).mono fun _ hk => .inl hk, (Only.refl _ _).drewN n⟩
  rcases idx_place s k with ⟨i, hi, hk, hx⟩ | ⟨hn, hx⟩
  · have : s.has k = true := (LU.has_keys s k).2 (List.mem_map.2 ⟨_, List.getElem_mem hi, hk⟩)
    rw [this] at hh; cases hh
  rw [hx] at HAt
  have HE : Hid (s.add k = (s, 0, false, 9)) := Lib.hid (by unfold LU.add; rw [if_neg (by simp [hh]), if_pos hl, ho])
  obtain ⟨v, h⟩ := h
  obtain ⟨A, c, hv, hlc, hcm, -⟩ := h.row.value
  obtain ⟨c0, c1⟩ := h.cells
  rw [hv] at c1
  unfold maxLen at hcm
  have hb : ((s.items.length : Int) == (s.cap : Int)) = true := by rw [beq_iff_eq]; omega
  unfold addR
  clear hx h hn hh hl hv ho hold
  go_enter Try.func26, Try.ntmps26
  go_wp2_with (go_at_call 12; refine HAt.out.mono ?_; rintro e w1 ⟨rfl, rfl⟩)
  go_quiet (fail)
  go_wp2_with (go_at_call 28; refine (HOld.out _).mono ?_; rintro e w1 ⟨rfl, rfl⟩)
  go_ret3
  rw [HE.out]
  exact ⟨rfl, HT.out _⟩

set_option maxRecDepth 100000 in
set_option maxHeartbeats 3200000 in
theorem ref_add_gone (h : RefAtL w F p s) (k : Int) (hh : s.has k = false) (hl : s.items.length = s.cap) (i : Nat) (hi : i < s.items.length) (ho : s.oldest = some s.items[i]) (hold : s.old = i) :
    Calls Try.prog 26 #[.pointer (some ⟨p, 0, none⟩), .int .i64 k] w (DidL w F p (addR s k) (s.add k).1) := by
  obtain ⟨i0, hi1, hz0, hz1, hz2⟩ := info_parts itinfo
  have HAt := Lib.hid (ref_at h k)
  have HOld : Hid (∀ n, Calls Try.prog 28 #[.pointer (some ⟨p, 0, none⟩)] (w.drewN n) fun e w' => e = .returned (.int .i64 (i : Int)) ∧ w.drewN n = w') := Lib.hid fun n => by
    have := ref_oldest (h.only ((Only.refl (fun _ => False) w).drewN n) fun _ _ => id)
    rw [hold] at this
    exact this
  have HOut : Hid (∀ n, Calls Try.prog 34 #[.pointer (some ⟨p, 0, none⟩), .int .i64 (i : Int)] (w.drewN n) (DidL w F p (itV s.items[i]) { s with items := s.items.eraseIdx i })) := Lib.hid fun n =>
    (ref_out (h.only ((Only.refl (fun _ => False) w).drewN n) fun _ _ => id) i hi).mono fun e w' ⟨h1, h2, h3⟩ => ⟨h1, h2, ⟨h3.os, h3.tape, h3.output, h3.size, h3.block⟩⟩
  rcases idx_place s k with ⟨i, hi, hk, hx⟩ | ⟨hn, hx⟩
  · have : s.has k = true := (LU.has_keys s k).2 (List.mem_map.2 ⟨_, List.getElem_mem hi, hk⟩)
    rw [this] at hh; cases hh
  rw [hx] at HAt
  have hok : s.Ok := by obtain ⟨v, h⟩ := h; exact h.ok
  have HE : Hid (s.add k = (LU.put { s with items := s.items.eraseIdx i } ⟨k, 0, false⟩, s.items[i].key, true, 0)) := Lib.hid (by
    unfold LU.add; rw [if_neg (by simp [hh]), if_pos hl, ho]
    simp only
    rw [LU.out_at hok hi])
  have hok2 : LU.Ok (LU.put { s with items := s.items.eraseIdx i } ⟨k, 0, false⟩) := by
    have := hok.add k
    rw [HE.out] at this
    exact this
  have HOk2 := Lib.hid hok2
  obtain ⟨v, h⟩ := h
  obtain ⟨A0, c0', hv, hlc, hcm, -⟩ := h.row.value
  obtain ⟨c0, c1⟩ := h.cells
  rw [hv] at c1
  unfold maxLen at hcm
  have hb : ((s.items.length : Int) == (s.cap : Int)) = true := by rw [beq_iff_eq]; omega
  have hi0 : (0 : Int) ≤ (i : Int) := by omega
  have HPush : Hid (∀ w1 o, RefAtL w1 (Gr F w w1) p { s with items := s.items.eraseIdx i } → Only F w w1 → ∃ A c, PushNew w (w1.alloc o) F p { s with items := s.items.eraseIdx i } k A (s.items.eraseIdx i).length c) := Lib.hid fun w1 o ⟨v1, h1⟩ h2 => by
    obtain ⟨A', c', hv', hp⟩ := push_new (w := w) (W := w1.alloc o) (k := k) (F := F) (h1.only ((Only.refl (fun _ => False) w1).alloc o) fun _ _ => id) HOk2.out (h2.alloc o) fun j hj => hj.elim .inl fun hj => .inr (by simp; omega)
    exact ⟨A', c', hp⟩
  unfold addR
  clear hx h hn hh hl hv ho hold hok hok2
  generalize s.items[i] = x at *
  unfold itV at HOut
  go_enter Try.func26, Try.ntmps26
  go_wp2_with (go_at_call 12; refine HAt.out.mono ?_; rintro e w1 ⟨rfl, rfl⟩)
  go_quiet (fail)
  clear c0 c1
  go_upto_region 10 with (first
    | (go_at_call 28; refine (HOld.out _).mono ?_; rintro e w1 ⟨rfl, rfl⟩)
    | (go_at_call 34; refine (HOut.out _).mono ?_; rintro e w1 ⟨rfl, hr1, ho1⟩))
  obtain ⟨A, c, hP⟩ := HPush.out w1 (.cells #[.int .i64 x.key, .int .i64 (x.pins : Int), .bool x.marked] 61) hr1 ho1
  obtain ⟨W, hW⟩ : ∃ W, W = w1.alloc (.cells #[.int .i64 x.key, .int .i64 (x.pins : Int), .bool x.marked] 61) := ⟨_, rfl⟩
  rw [← hW] at hP ⊢
  have P5 := hP.cell
  have P6 := hP.lt
  have HP := Lib.hid hP
  clear hP HPush hW hr1 ho1
  generalize hm : (s.items.eraseIdx i).length = m at *
  clear hm
  go_wp2_with (at_builtin; refine wpList_append_any _ rfl (.tmp 38) (.tmp 41) 29 rfl 0 61 i0 (.agg #[.int .i64 0, .int .i64 0, .bool false]) 3 24 Try.underlying29 hi1 hz0 hz1 hz2 rfl (by decide) (.slice A m c) m _ rfl HP.out.row (W.heap.size + 1) (some ⟨W.heap.size, 0, none⟩) 1 1 [.int .i64 k, .int .i64 0, .bool false] rfl HP.out.rd (one_new k) HP.out.b1 HP.out.b2 (Nat.zero_le _) ?_; intro v5 w5 ho5 hg5 hat5; have hfin := Lib.hid (HP.out.fin v5 w5 ho5 hg5 hat5); obtain ⟨p1, p2⟩ := HP.out.cells w5 hg5; obtain ⟨A5, c5, hv5⟩ := own_val ho5; subst hv5; clear ho5 hg5 hat5)
  go_ret3
  rw [HE.out]
  exact ⟨rfl, hfin.out⟩

theorem old_place (s : LU) : (∃ i, ∃ h : i < s.items.length, s.old = i ∧ s.oldest = some s.items[i]) ∨ (s.old = -1 ∧ s.oldest = none) := by
  cases h1 : s.items.findIdx? (fun x => x.pins == 0) with
  | some i =>
    obtain ⟨hi, h2, h3⟩ := List.findIdx?_eq_some_iff_getElem.1 h1
    exact .inl ⟨i, hi, LU.old_some hi (by simpa using h2) fun j hj => by simpa using h3 j hj⟩
  | none =>
    have h2 := List.findIdx?_eq_none_iff.1 h1
    exact .inr (LU.old_none fun j hj => by simpa using h2 s.items[j] (List.getElem_mem hj))
theorem ref_add (h : RefAtL w F p s) (k : Int) :
    Calls Try.prog 26 #[.pointer (some ⟨p, 0, none⟩), .int .i64 k] w (DidL w F p (addR s k) (s.add k).1) := by
  cases hh : s.has k with
  | true => exact ref_add_has h k hh
  | false =>
    by_cases hl : s.items.length = s.cap
    · rcases old_place s with ⟨i, hi, h1, h2⟩ | ⟨h1, h2⟩
      · exact ref_add_gone h k hh hl i hi h2 h1
      · exact ref_add_full h k hh hl h2 h1
    · exact ref_add_free h k hh hl
end
end Go.Proofs.Ytopdfhedifcalaa
