/- Contracts of the landed list's find, Has, Use, Pin, Unpin, Mark, Drop over the abstract list. Conditions: those that each theorem names. -/
import Derived.Test.YtopdfhedifcalaaLrC
namespace Go.Proofs.Ytopdfhedifcalaa
open Go.RowKit

section
variable {w w' : World} {F G : Nat → Prop} {p : Nat} {L : LM}
set_option maxHeartbeats 800000 in
theorem lru_find (k : Int) (hk : (Lit.int .i64 k).wf = true) (h : LruM w F p L) :
    Calls Try.prog 29 #[.pointer (some ⟨p, 0, none⟩), .int .i64 k] w fun e w' => e = .returned (.pointer (ptrG L.fr k)) ∧ w = w' := by
  have hrun := h.map.run hk
  have c6 := h.ring.c6
  clear h
  generalize ptrG L.fr k = a at *
  go_enter Try.func29, Try.ntmps29
  go_wp2
  go_ret
  exact ⟨rfl, rfl⟩
set_option maxHeartbeats 800000 in
theorem lru_has (k : Int) (hk : (Lit.int .i64 k).wf = true) (h : LruM w F p L) :
    Calls Try.prog 11 #[.pointer (some ⟨p, 0, none⟩), .int .i64 k] w fun e w' => e = .returned (.bool (L.st.has k)) ∧ w = w' := by
  have HF := Lib.hid (lru_find k hk h)
  rw [has_st]
  unfold ptrG gOf at HF
  clear h
  rcases hg : getG L.fr k with _ | x
  all_goals
    rw [hg] at HF
    clear hg
    simp only [Option.map_none, Option.map_some, Option.isSome_none, Option.isSome_some] at HF ⊢
    go_enter Try.func11, Try.ntmps11
    go_wp2_with (go_at_call 29; refine HF.out.mono ?_; rintro e w1 ⟨rfl, rfl⟩)
    go_ret
    exact ⟨rfl, rfl⟩

/-- What a call that turns the list leaves. -/
def Turned (w : World) (F : Nat → Prop) (p : Nat) (s : LU) (w' : World) : Prop := LruAt w' F p s ∧ Only F w w'
theorem ptrG_none {l : List GI} {k : Int} (h : getG l k = none) : ptrG l k = none := by unfold ptrG gOf; rw [h]; rfl
theorem ptrG_some {l : List GI} {k : Int} {x : GI} (h : getG l k = some x) : ptrG l k = some ⟨x.g, 0, none⟩ := by unfold ptrG gOf; rw [h]; rfl
theorem lhas_false {k : Int} (hg : getG L.fr k = none) : L.st.has k = false := by rw [has_st, hg]; rfl

set_option maxHeartbeats 1600000 in
theorem lru_use (k : Int) (hk : (Lit.int .i64 k).wf = true) (h : LruM w F p L) :
    Calls Try.prog 18 #[.pointer (some ⟨p, 0, none⟩), .int .i64 k] w fun e w' => e = .returned (.bool (L.st.use k).2) ∧ Turned w F p (L.st.use k).1 w' := by
  have HF := Lib.hid (lru_find k hk h)
  rcases hg : getG L.fr k with _ | x
  · rw [ptrG_none hg] at HF
    have HE := Lib.hid (LU.use_none (lhas_false hg))
    have HT : Hid (Turned w F p L.st w) := Lib.hid ⟨⟨L, rfl, h⟩, Only.refl _ _⟩
    clear hg h
    go_enter Try.func18, Try.ntmps18
    go_wp2_with (go_at_call 29; refine HF.out.mono ?_; rintro e w1 ⟨rfl, rfl⟩)
    go_ret
    rw [HE.out]
    exact ⟨rfl, HT.out⟩
  · rw [ptrG_some hg] at HF
    obtain ⟨A, B, hL, rfl⟩ := getG_split hg
    obtain ⟨hi, e1, e2, _⟩ := at_split hL
    have hu := LU.use_at h.ok hi
    rw [e1, e2] at hu
    have hr := h.ring
    rw [hL] at hr
    have HLv := Lib.hid (leave_ring hr)
    have hkeys := h.keys
    have HFin : Hid (∀ w1 w2, LeftRing w F p L.cap L.mb (A ++ B) x w1 → RingM w2 F p L.cap L.mb (A ++ B ++ [x]) → Only (Nodes p (A ++ B ++ [x])) w1 w2 → Turned w F p (L.st.use x.key).1 w2) := Lib.hid (by
      intro w1 w2 h1 h2 h3
      have hnodes : ∀ j, Nodes p (A ++ B ++ [x]) j → Nodes p L.fr j := fun j hj => hj.imp id fun ⟨y, hy, e⟩ => ⟨y, by rw [hL]; simp at hy ⊢; rcases hy with hy | hy | hy <;> simp [hy], e⟩
      have hO : Only (Nodes p L.fr) w w2 := (h1.2.2.2.2.mono fun j _ hj => hnodes j (hj.imp id fun ⟨y, hy, e⟩ => ⟨y, List.mem_append_left _ hy, e⟩)).trans (h3.mono fun j _ hj => hnodes j hj) fun j _ hj => hj
      have hp : ((A ++ B ++ [x]).map fun x => (x.key, x.g)).Perm (L.fr.map fun x => (x.key, x.g)) := by
        rw [hL]
        refine List.Perm.map _ ?_
        rw [List.append_assoc]
        exact (List.perm_append_comm (l₁ := B) (l₂ := [x])).append_left A
      have hm := (h.map.off hO (fun hj => h.apart _ hj rfl)).congr hkeys hp
      have hst : (L.st.use x.key).1 = LM.st { L with fr := A ++ B ++ [x] } := by
        rw [show L.st.use x.key = _ from hu]
        simp [LM.st]
      refine ⟨⟨{ L with fr := A ++ B ++ [x] }, hst.symm, ⟨h2, hm, ?_, h.cap⟩⟩, hO.mono fun j _ hj => h.ring.nodes hj⟩
      rw [← hst]
      exact h.ok.use _)
    have HE : Hid ((L.st.use x.key).2 = true) := Lib.hid (by rw [show L.st.use x.key = _ from hu])
    have hgx : x.g ∉ (A ++ B).map (·.g) := by
      have := hr.gs
      rw [List.map_append, List.map_cons, List.nodup_append] at this
      rw [List.map_append, List.mem_append]
      rintro (c | c)
      · exact this.2.2 _ c x.g (by simp) rfl
      · exact (List.nodup_cons.1 this.2.1).1 c
    have HG := Lib.hid hgx
    clear hgx hg h hL hu hr hi e1 e2 hkeys
    go_enter Try.func18, Try.ntmps18
    go_wp2_with (first
      | (go_at_call 29; refine HF.out.mono ?_; rintro e w1 ⟨rfl, rfl⟩)
      | (go_at_call 32; refine HLv.out.mono ?_; rintro e w1 ⟨rfl, h1⟩)
      | (go_at_call 33; refine (enter_ring h1.1 h1.2.1 HG.out h1.2.2.1 h1.2.2.2.1).mono ?_; rintro e w2 ⟨rfl, h2, h3⟩))
    go_ret
    rw [HE.out]
    exact ⟨rfl, HFin.out _ _ h1 h2 h3⟩

/-! ### One item's marks turn -/
theorem LruM.turn (h : LruM w F p L) {A B : List GI} {x x' : GI} (hL : L.fr = A ++ x :: B) (i : Nat) (u : Value) (hg : x'.g = x.g) (hk : x'.key = x.key) (hi : i = 3 ∨ i = 4)
    (h3 : (if i = 3 then u else .int .i64 (x.pins : Int)) = .int .i64 (x'.pins : Int)) (h4 : (if i = 4 then u else .bool x.marked) = .bool x'.marked) :
    LruM (w.setCell ⟨x.g, i, none⟩ u) F p { L with fr := A ++ x' :: B } ∧ Only F w (w.setCell ⟨x.g, i, none⟩ u) := by
  have hr := h.ring
  rw [hL] at hr
  have hx := hr.item x (by simp)
  have hxp := hr.ne (x := x) (by simp)
  have hO : Only (fun j => j = x.g) w (w.setCell ⟨x.g, i, none⟩ u) := (Only.refl (fun j => j = x.g) w).setCell (p := ⟨x.g, i, none⟩) (.inl rfl) u
  have hne : ∀ y ∈ A ++ B, y.g ≠ x.g := by
    intro y hy e
    have hgs := hr.gs
    rw [List.map_append, List.map_cons, List.nodup_append] at hgs
    rcases List.mem_append.1 hy with hy | hy
    · exact hgs.2.2 y.g (List.mem_map.2 ⟨y, hy, rfl⟩) x.g (by simp) e
    · exact (List.nodup_cons.1 hgs.2.1).1 (e ▸ List.mem_map.2 ⟨y, hy, rfl⟩)
  have had : x'.ad = x.ad := by unfold GI.ad; rw [hg]
  have hgmap : (A ++ x' :: B).map (·.g) = (A ++ x :: B).map (·.g) := by simp [hg]
  have hring : ringOf p (A ++ x' :: B) = ringOf p (A ++ x :: B) := by simp [ringOf, had]
  have hx' : ItemIs (w.setCell ⟨x.g, i, none⟩ u) F x' := by
    refine ⟨by rw [hg]; exact hx.kd.set _ _ _, by rw [hg]; exact hx.fp, ?_, ?_, ?_, by rw [hk]; exact hx.wf⟩
    · rw [hg, hk]
      exact (cell_far _ _ fun _ => by omega).trans hx.ck
    · rw [hg, ← h3]
      rcases hi with rfl | rfl
      · exact cell_at _ hx.cp
      · exact (cell_far _ _ fun _ => by decide).trans hx.cp
    · rw [hg, ← h4]
      rcases hi with rfl | rfl
      · exact (cell_far _ _ fun _ => by decide).trans hx.cm
      · exact cell_at _ hx.cm
  have hR : RingM (w.setCell ⟨x.g, i, none⟩ u) F p L.cap L.mb (A ++ x' :: B) := by
    refine ⟨hr.kp.set _ _ _, hr.fp, (cell_far _ _ fun e => absurd e hxp).trans hr.c0, (cell_far _ _ fun e => absurd e hxp).trans hr.c6, fun y hy => ?_, ?_, by rw [hgmap]; exact hr.gs⟩
    · rcases List.mem_append.1 hy with hy | hy
      · exact (hr.item y (by simp [hy])).off hO (hne y (by simp [hy]))
      · rcases List.mem_cons.1 hy with rfl | hy
        · exact hx'
        · exact (hr.item y (by simp [hy])).off hO (hne y (by simp [hy]))
    · rw [hring]
      refine linked_frame hr.ring (fun a ha => ?_) fun a ha => ?_
      · obtain ⟨b, o, rfl, hb⟩ := hr.nd a (List.dropLast_subset _ ha)
        exact cell_far (b' := b) (i' := o + 1) _ _ fun e => by
          rcases hb with ⟨h1, h2⟩ | ⟨h1, h2⟩
          · exact absurd (e.trans h1) hxp
          · omega
      · obtain ⟨b, o, rfl, hb⟩ := hr.nd a (List.mem_of_mem_tail ha)
        exact cell_far _ _ fun e => by
          rcases hb with ⟨h1, h2⟩ | ⟨h1, h2⟩
          · exact absurd (e.trans h1) hxp
          · omega
  have hM : MapM (w.setCell ⟨x.g, i, none⟩ u) F L.mb L.D (A ++ x' :: B) := by
    refine (h.map.off hO (fun e => h.apart x.g (.inr ⟨x, by rw [hL]; simp, rfl⟩) e)).congr h.keys ?_
    rw [hL]
    simp [hg, hk]
  refine ⟨⟨hR, hM, ⟨?_, ?_⟩, h.cap⟩, hO.mono fun j _ hj => hj ▸ hx.fp⟩
  · have := h.ok.nodup
    rw [st_keys] at this ⊢
    rw [hL] at this
    simpa [hk] using this
  · have := h.ok.len
    rw [st_len] at this ⊢
    rw [hL] at this
    simpa [LM.st] using this
theorem upd_split {A B : List GI} {x : GI} (h : L.st.Ok) (hL : L.fr = A ++ x :: B) (f : It → It) (x' : GI) (hf : f x.it = x'.it) : L.st.upd x.key f = LM.st { L with fr := A ++ x' :: B } := by
  obtain ⟨hi, e1, _, e3⟩ := at_split hL
  have := LU.upd_at h hi f
  rw [e1, e3, hf] at this
  rw [show L.st.upd x.key f = _ from this]
  simp [LM.st]
theorem has_split {A B : List GI} {x : GI} (hL : L.fr = A ++ x :: B) : L.st.has x.key = true := by rw [has_st, hL]; unfold getG; rw [List.find?_isSome]; exact ⟨x, by simp, by simp⟩
theorem get_split {A B : List GI} {x : GI} (h : L.st.Ok) (hL : L.fr = A ++ x :: B) : L.st.get x.key = some x.it := by
  obtain ⟨hi, e1, _, _⟩ := at_split hL
  have := LU.get_at h hi
  rw [e1] at this
  exact this

set_option maxHeartbeats 1600000 in
theorem lru_pin (k : Int) (hk : (Lit.int .i64 k).wf = true) (h : LruM w F p L) (hp : ∀ x ∈ L.fr, x.pins ≤ 1152921504606846976) :
    Calls Try.prog 20 #[.pointer (some ⟨p, 0, none⟩), .int .i64 k] w fun e w' => e = .returned (.bool (L.st.pin k).2) ∧ Turned w F p (L.st.pin k).1 w' := by
  have HF := Lib.hid (lru_find k hk h)
  rcases hg : getG L.fr k with _ | x
  · rw [ptrG_none hg] at HF
    have HE := Lib.hid (LU.pin_none (lhas_false hg))
    have HT : Hid (Turned w F p L.st w) := Lib.hid ⟨⟨L, rfl, h⟩, Only.refl _ _⟩
    clear hg h hp
    go_enter Try.func20, Try.ntmps20
    go_wp2_with (go_at_call 29; refine HF.out.mono ?_; rintro e w1 ⟨rfl, rfl⟩)
    go_ret
    rw [HE.out]
    exact ⟨rfl, HT.out⟩
  · rw [ptrG_some hg] at HF
    obtain ⟨A, B, hL, rfl⟩ := getG_split hg
    have hxm : x ∈ L.fr := by rw [hL]; simp
    have hpx := hp x hxm
    have hx := h.ring.item x hxm
    have ht := h.turn hL 3 (.int .i64 ((x.pins : Int) + 1)) (x' := { x with pins := x.pins + 1 }) rfl rfl (.inl rfl) (by simp) (by simp)
    have hu : L.st.pin x.key = (LM.st { L with fr := A ++ { x with pins := x.pins + 1 } :: B }, true) := by
      unfold LU.pin
      rw [has_split hL, upd_split h.ok hL _ { x with pins := x.pins + 1 } rfl]
    have HE := Lib.hid hu
    have HT : Hid (Turned w F p (LM.st { L with fr := A ++ { x with pins := x.pins + 1 } :: B }) (w.setCell ⟨x.g, 3, none⟩ (.int .i64 ((x.pins : Int) + 1)))) := Lib.hid ⟨⟨_, rfl, ht.1⟩, ht.2⟩
    have cp := hx.cp
    have fz := hx.kd.frozen 3
    have hpi : (x.pins : Int) ≤ 1152921504606846976 := by omega
    have hp0 : (0 : Int) ≤ (x.pins : Int) := by omega
    clear hu ht hx hpx hxm hL hg h hp
    go_enter Try.func20, Try.ntmps20
    go_wp2_with (go_at_call 29; refine HF.out.mono ?_; rintro e w1 ⟨rfl, rfl⟩)
    go_ret
    rw [HE.out]
    exact ⟨rfl, HT.out⟩

set_option maxHeartbeats 1600000 in
theorem lru_unpin (k : Int) (hk : (Lit.int .i64 k).wf = true) (h : LruM w F p L) (hp : ∀ x ∈ L.fr, x.pins ≤ 1152921504606846976) :
    Calls Try.prog 23 #[.pointer (some ⟨p, 0, none⟩), .int .i64 k] w fun e w' => e = .returned (.bool (L.st.unpin k).2) ∧ Turned w F p (L.st.unpin k).1 w' := by
  have HF := Lib.hid (lru_find k hk h)
  have HS : Hid (Turned w F p L.st w) := Lib.hid ⟨⟨L, rfl, h⟩, Only.refl _ _⟩
  rcases hg : getG L.fr k with _ | x
  · rw [ptrG_none hg] at HF
    have HE := Lib.hid (LU.unpin_none (lhas_false hg))
    clear hg h hp
    go_enter Try.func23, Try.ntmps23
    go_wp2_with (go_at_call 29; refine HF.out.mono ?_; rintro e w1 ⟨rfl, rfl⟩)
    go_ret
    rw [HE.out]
    exact ⟨rfl, HS.out⟩
  · rw [ptrG_some hg] at HF
    obtain ⟨A, B, hL, rfl⟩ := getG_split hg
    have hxm : x ∈ L.fr := by rw [hL]; simp
    have hpx := hp x hxm
    have hx := h.ring.item x hxm
    have hget := get_split h.ok hL
    have cp := hx.cp
    have fz := hx.kd.frozen 3
    by_cases h0 : x.pins = 0
    · have hu : L.st.unpin x.key = (L.st, false) := by
        unfold LU.unpin
        rw [hget]
        simp only [GI.it, h0, Nat.lt_irrefl, if_false]
      have HE := Lib.hid hu
      rw [h0] at cp
      clear hu hx hpx hxm hL hg h hp hget h0
      go_enter Try.func23, Try.ntmps23
      go_wp2_with (go_at_call 29; refine HF.out.mono ?_; rintro e w1 ⟨rfl, rfl⟩)
      go_ret
      rw [HE.out]
      exact ⟨rfl, HS.out⟩
    · have ht := h.turn hL 3 (.int .i64 ((x.pins : Int) - 1)) (x' := { x with pins := x.pins - 1 }) rfl rfl (.inl rfl) (by simp; omega) (by simp)
      have hu : L.st.unpin x.key = (LM.st { L with fr := A ++ { x with pins := x.pins - 1 } :: B }, true) := by
        unfold LU.unpin
        rw [hget]
        simp only [GI.it, show 0 < x.pins from by omega, if_true]
        rw [upd_split h.ok hL _ { x with pins := x.pins - 1 } rfl]
      have HE := Lib.hid hu
      have HT : Hid (Turned w F p (LM.st { L with fr := A ++ { x with pins := x.pins - 1 } :: B }) (w.setCell ⟨x.g, 3, none⟩ (.int .i64 ((x.pins : Int) - 1)))) := Lib.hid ⟨⟨_, rfl, ht.1⟩, ht.2⟩
      have hpi : (x.pins : Int) ≤ 1152921504606846976 := by omega
      have hp0 : (1 : Int) ≤ (x.pins : Int) := by omega
      have hb : ((x.pins : Int) == 0) = false := by rw [beq_eq_false_iff_ne]; omega
      clear hu ht hx hpx hxm hL hg h hp hget h0 HS
      generalize (x.pins : Int) = n at *
      go_enter Try.func23, Try.ntmps23
      go_wp2_with (go_at_call 29; refine HF.out.mono ?_; rintro e w1 ⟨rfl, rfl⟩)
      go_ret
      rw [HE.out]
      exact ⟨rfl, HT.out⟩

set_option maxHeartbeats 1600000 in
theorem lru_mark (k : Int) (on : Bool) (hk : (Lit.int .i64 k).wf = true) (h : LruM w F p L) :
    Calls Try.prog 24 #[.pointer (some ⟨p, 0, none⟩), .int .i64 k, .bool on] w fun e w' => e = .returned (.bool (L.st.mark k on).2) ∧ Turned w F p (L.st.mark k on).1 w' := by
  have HF := Lib.hid (lru_find k hk h)
  rcases hg : getG L.fr k with _ | x
  · rw [ptrG_none hg] at HF
    have HE := Lib.hid (LU.mark_none (lhas_false hg) on)
    have HT : Hid (Turned w F p L.st w) := Lib.hid ⟨⟨L, rfl, h⟩, Only.refl _ _⟩
    clear hg h
    go_enter Try.func24, Try.ntmps24
    go_wp2_with (go_at_call 29; refine HF.out.mono ?_; rintro e w1 ⟨rfl, rfl⟩)
    go_ret
    rw [HE.out]
    exact ⟨rfl, HT.out⟩
  · rw [ptrG_some hg] at HF
    obtain ⟨A, B, hL, rfl⟩ := getG_split hg
    have hxm : x ∈ L.fr := by rw [hL]; simp
    have hx := h.ring.item x hxm
    have ht := h.turn hL 4 (.bool on) (x' := { x with marked := on }) rfl rfl (.inr rfl) (by simp) (by simp)
    have hu : L.st.mark x.key on = (LM.st { L with fr := A ++ { x with marked := on } :: B }, true) := by
      unfold LU.mark
      rw [has_split hL, upd_split h.ok hL _ { x with marked := on } rfl]
    have HE := Lib.hid hu
    have HT : Hid (Turned w F p (LM.st { L with fr := A ++ { x with marked := on } :: B }) (w.setCell ⟨x.g, 4, none⟩ (.bool on))) := Lib.hid ⟨⟨_, rfl, ht.1⟩, ht.2⟩
    have cm := hx.cm
    have fz := hx.kd.frozen 4
    clear hu ht hx hxm hL hg h
    go_enter Try.func24, Try.ntmps24
    go_wp2_with (go_at_call 29; refine HF.out.mono ?_; rintro e w1 ⟨rfl, rfl⟩)
    go_ret
    rw [HE.out]
    exact ⟨rfl, HT.out⟩

set_option maxHeartbeats 1600000 in
theorem lru_drop (k : Int) (hk : (Lit.int .i64 k).wf = true) (h : LruM w F p L) :
    Calls Try.prog 22 #[.pointer (some ⟨p, 0, none⟩), .int .i64 k] w fun e w' => e = .returned (.bool (L.st.drop k).2) ∧ Turned w F p (L.st.drop k).1 w' := by
  have HF := Lib.hid (lru_find k hk h)
  have HS : Hid (Turned w F p L.st w) := Lib.hid ⟨⟨L, rfl, h⟩, Only.refl _ _⟩
  rcases hg : getG L.fr k with _ | x
  · rw [ptrG_none hg] at HF
    have HE := Lib.hid (LU.drop_none (lhas_false hg))
    clear hg h
    go_enter Try.func22, Try.ntmps22
    go_wp2_with (go_at_call 29; refine HF.out.mono ?_; rintro e w1 ⟨rfl, rfl⟩)
    go_ret
    rw [HE.out]
    exact ⟨rfl, HS.out⟩
  · rw [ptrG_some hg] at HF
    obtain ⟨A, B, hL, rfl⟩ := getG_split hg
    have hxm : x ∈ L.fr := by rw [hL]; simp
    have hx := h.ring.item x hxm
    obtain ⟨hi, e1, e2, _⟩ := at_split hL
    have hu := LU.drop_at h.ok hi
    rw [e1, e2] at hu
    have hu' : L.st.drop x.key = _ := hu
    have cp := hx.cp
    by_cases h0 : 0 < x.pins
    · rw [if_pos (show 0 < x.it.pins from h0)] at hu'
      have HE := Lib.hid hu'
      have hp0 : (0 : Int) < (x.pins : Int) := by omega
      clear hu hu' hx hxm hL hg h h0 hi e1 e2
      generalize (x.pins : Int) = n at *
      go_enter Try.func22, Try.ntmps22
      go_wp2_with (go_at_call 29; refine HF.out.mono ?_; rintro e w1 ⟨rfl, rfl⟩)
      go_ret
      rw [HE.out]
      exact ⟨rfl, HS.out⟩
    · rw [if_neg (show ¬ 0 < x.it.pins from h0)] at hu'
      have HE := Lib.hid hu'
      obtain hz : x.pins = 0 := by omega
      rw [hz] at cp
      have hr := h.ring
      rw [hL] at hr
      have HLv := Lib.hid (leave_ring hr)
      have hkeys := h.keys
      have hkl := keyI hk
      have HM1 : Hid (∀ w1, LeftRing w F p L.cap L.mb (A ++ B) x w1 → w1.ownsMap Try.prog 3 ptrR L.mb (Maps.size L.D) L.D) := Lib.hid (fun w1 h1 => owns_only h.map.map h1.2.2.2.2 fun hj => h.apart _ (hj.imp id fun ⟨y, hy, e⟩ => ⟨y, by rw [hL]; simp at hy ⊢; rcases hy with hy | hy <;> simp [hy], e⟩) rfl)
      have HC6 : Hid (∀ w1, LeftRing w F p L.cap L.mb (A ++ B) x w1 → w1.cell? ⟨p, 6, none⟩ = some (.map (some L.mb))) := Lib.hid (fun w1 h1 => h1.1.c6)
      have HFin : Hid (∀ w1 w2, LeftRing w F p L.cap L.mb (A ++ B) x w1 → w2.ownsMap Try.prog 3 ptrR L.mb (Maps.size L.D) (L.D.del (.int .i64 x.key)) → w1.mapTurned w2 L.mb → Turned w F p (L.st.drop x.key).1 w2) := Lib.hid (by
        intro w1 w2 h1 h2 h3
        have hnodes : ∀ j, Nodes p (A ++ B) j → Nodes p L.fr j := fun j hj => hj.imp id fun ⟨y, hy, e⟩ => ⟨y, by rw [hL]; simp at hy ⊢; rcases hy with hy | hy <;> simp [hy], e⟩
        have hO1 : Only (fun j => j = L.mb) w1 w2 := (Only.refl _ w1).grown h3.grown fun k hk => by injection hk with hk; exact .inl hk.symm
        have hO : Only F w w2 := (h1.2.2.2.2.mono fun j _ hj => h.ring.nodes (hnodes j hj)).trans (hO1.mono fun j _ hj => hj ▸ h.map.mf) fun j _ hj => hj
        have hR : RingM w2 F p L.cap L.mb (A ++ B) := h1.1.off hO1 fun j hj e => h.apart j (hnodes j hj) e.symm
        have hMp := h.map
        rw [hL] at hMp hkeys
        have hM := hMp.drop hkeys h2
        have hst : (L.st.drop x.key).1 = LM.st { L with D := L.D.del (.int .i64 x.key), fr := A ++ B } := by
          rw [HE.out]
          simp [LM.st]
        refine ⟨⟨{ L with D := L.D.del (.int .i64 x.key), fr := A ++ B }, hst.symm, ⟨hR, hM, ?_, h.cap⟩⟩, hO⟩
        rw [← hst]
        exact h.ok.drop _)
      clear hu hu' hx hxm hL hg h h0 hi e1 e2 hkeys hr hz HS
      go_enter Try.func22, Try.ntmps22
      go_wp2_with (first
        | (go_at_call 29; refine HF.out.mono ?_; rintro e w1 ⟨rfl, rfl⟩)
        | (go_at_call 32; refine HLv.out.mono ?_; rintro e w1 ⟨rfl, h1⟩; have c6 := HC6.out _ h1)
        | (at_delete; refine wpList_delete_own _ rfl _ _ 52 3 rfl 53 intKey Try.underlying52 ptrR L.mb (Maps.size L.D) L.D rfl (HM1.out _ h1) _ _ rfl hkl ?_; intro w2 h2 h3))
      go_ret
      have hfin := HFin.out _ _ h1 h2 h3
      rw [HE.out] at hfin ⊢
      exact ⟨rfl, hfin⟩
end
end Go.Proofs.Ytopdfhedifcalaa
