/- Contract of the landed list's Add over the abstract list. Conditions: the list stands in memory. -/
import Derived.Test.YtopdfhedifcalaaLrI
import Derived.Deep.QuietTactic
import Derived.BigQuiet
namespace Go.Proofs.Ytopdfhedifcalaa
open Go.RowKit

/-- F and one block more. -/
def AddF (F : Nat → Prop) (w : World) (k : Nat) : Prop := F k ∨ k = w.heap.size
def newIt (w : World) (k : Int) : GI := ⟨w.heap.size, k, 0, false⟩
def itemBlk (k : Int) : Obj := .cells #[.pointer none, .pointer none, .int .i64 k, .int .i64 0, .bool false] 55
/-- Behind the store of a new item's place into the map. -/
structure AddMid (w : World) (F : Nat → Prop) (p : Nat) (L : LM) (k : Int) (w4 : World) : Prop where
  ring : RingM w4 (AddF F w) p L.cap L.mb L.fr
  item : ItemIs w4 (AddF F w) (newIt w k)
  d0 : (w4.cell? ⟨w.heap.size, 0, none⟩).isSome = true
  d1 : (w4.cell? ⟨w.heap.size, 1, none⟩).isSome = true
  ne : w.heap.size ∉ L.fr.map (·.g)
  map : MapM w4 (AddF F w) L.mb (L.D.put (.int .i64 k) (.lit (.int .i64 (w.heap.size : Int)))) (L.fr ++ [newIt w k])
  only : Only F w w4
section
variable {w w0 w4 w5 : World} {F : Nat → Prop} {p : Nat} {L : LM} {k : Int}
theorem add_mid (h : LruM w F p L) (hk : (Lit.int .i64 k).wf = true) (hg : getG L.fr k = none) (hm : w4.ownsMap Try.prog 3 ptrR L.mb (Maps.size L.D + 1) (L.D.put (.int .i64 k) (.lit (.int .i64 (w.heap.size : Int))))) (hgr : (w.alloc (itemBlk k)).grownBy w4 (some L.mb)) : AddMid w F p L k w4 := by
  have hmlt := h.map.map.lt
  have hO1 : Only (fun j => j = L.mb) w w4 := ((Only.refl _ w).alloc _).grown hgr fun j hj => by injection hj with hj; exact .inl hj.symm
  have hnew : Blk w4 w.heap.size 55 #[.pointer none, .pointer none, .int .i64 k, .int .i64 0, .bool false] := (Blk.new w _ _).grown hgr (fun e => by injection e with e; omega)
  have hne : w.heap.size ∉ L.fr.map (·.g) := fun hc => by
    obtain ⟨x, hx, e⟩ := List.mem_map.1 hc
    have := (h.ring.item x hx).kd.lt
    omega
  have hsub : ∀ j, F j → AddF F w j := fun j hj => .inl hj
  refine ⟨(h.ring.off hO1 fun j hj e => h.apart j hj e.symm).mono hsub, ⟨⟨_, hnew⟩, .inr rfl, ?_, ?_, ?_, hk⟩, ?_, ?_, hne, ?_, hO1.mono fun j _ hj => hj ▸ h.map.mf⟩
  · exact (hnew.cell 2).trans rfl
  · exact (hnew.cell 3).trans rfl
  · exact (hnew.cell 4).trans rfl
  · rw [hnew.cell 0]; rfl
  · rw [hnew.cell 1]; rfl
  · have := (h.map.mono hsub).put (x := newIt w k) (w' := w4) (by unfold gOf newIt; rw [hg]; rfl) hm
    exact this
theorem add_end (h : LruM w F p L) (hg : getG L.fr k = none) (hlt : L.fr.length < L.cap) (hm : AddMid w F p L k w4) (hr : RingM w5 (AddF F w) p L.cap L.mb (L.fr ++ [newIt w k])) (ho : Only (Nodes p (L.fr ++ [newIt w k])) w4 w5) : LruAt w5 (AddF F w) p (L.st.put ⟨k, 0, false⟩) ∧ Only F w w5 := by
  have hst : L.st.put ⟨k, 0, false⟩ = LM.st { L with D := L.D.put (.int .i64 k) (.lit (.int .i64 (w.heap.size : Int))), fr := L.fr ++ [newIt w k] } := by
    simp [LU.put, LM.st, newIt, GI.it]
  have hap : ∀ j, Nodes p (L.fr ++ [newIt w k]) j → L.mb ≠ j := fun j hj => by
    rcases hj with rfl | ⟨x, hx, rfl⟩
    · exact hm.map.ne hm.ring.kp
    · rcases List.mem_append.1 hx with hx | hx
      · exact hm.map.ne (hm.ring.item x hx).kd
      · rw [List.mem_singleton.1 hx]
        exact hm.map.ne hm.item.kd
  have hok := h.ok.put (x := ⟨k, 0, false⟩) (by
    rw [st_keys]
    intro hc
    obtain ⟨x, hx, e⟩ := List.mem_map.1 hc
    exact getG_none hg x hx e) (by rw [st_len]; exact hlt)
  refine ⟨⟨_, hst.symm, hr, hm.map.off ho (fun hj => hap _ hj rfl), ?_, h.cap⟩, hm.only.trans ho fun j hj hn => ?_⟩
  · rw [← hst]; exact hok
  · rcases hn with rfl | ⟨x, hx, rfl⟩
    · exact h.ring.fp
    · rcases List.mem_append.1 hx with hx | hx
      · exact (h.ring.item x hx).fp
      · rw [List.mem_singleton.1 hx] at hj
        exact absurd hj (Nat.lt_irrefl _)
/-- What a call that adds to the list leaves. -/
def TurnedG (w : World) (F : Nat → Prop) (p : Nat) (s : LU) (w' : World) : Prop := LruAt w' (Gr F w w') p s ∧ Only F w w'
theorem turned_end {s : LU} (hO0 : Only F w0 w) (ha : LruAt w5 (AddF F w) p s) (ho : Only F w w5) (hlt : w.heap.size < w5.heap.size) : TurnedG w0 F p s w5 := by
  refine ⟨ha.mono fun j hj => ?_, hO0.trans ho fun j _ hj => hj⟩
  rcases hj with hj | hj
  · exact .inl hj
  · have := hO0.size
    exact .inr (by omega)
/-- What Add answers. -/
def addV (s : LU) (k : Int) : Value := .tuple #[.int .i64 (s.add k).2.1, .bool (s.add k).2.2.1, .int .i64 ((s.add k).2.2.2 : Int)]

theorem add_has {s : LU} {k : Int} (h : s.has k = true) : s.add k = (s, 0, false, 1) := by unfold LU.add; rw [if_pos h]
theorem add_full {s : LU} {k : Int} (h : s.has k = false) (hl : s.items.length = s.cap) (ho : s.oldest = none) : s.add k = (s, 0, false, 9) := by unfold LU.add; rw [if_neg (by simp [h]), if_pos hl, ho]
theorem add_gone {s : LU} {k : Int} {x : It} (h : s.has k = false) (hl : s.items.length = s.cap) (ho : s.oldest = some x) : s.add k = ((s.out x.key).put ⟨k, 0, false⟩, x.key, true, 0) := by unfold LU.add; rw [if_neg (by simp [h]), if_pos hl, ho]
theorem add_free {s : LU} {k : Int} (h : s.has k = false) (hl : s.items.length ≠ s.cap) : s.add k = (s.put ⟨k, 0, false⟩, 0, false, 0) := by unfold LU.add; rw [if_neg (by simp [h]), if_neg hl]
set_option maxHeartbeats 2000000 in
theorem lru_add_has (hk : (Lit.int .i64 k).wf = true) (h : LruM w F p L) (hh : L.st.has k = true) :
    Calls Try.prog 19 #[.pointer (some ⟨p, 0, none⟩), .int .i64 k] w fun e w' => e = .returned (addV L.st k) ∧ TurnedG w F p (L.st.add k).1 w' := by
  have HHas := Lib.hid (lru_has k hk h)
  rw [hh] at HHas
  have HE := Lib.hid (add_has hh)
  have HT : Hid (TurnedG w F p L.st w) := Lib.hid ⟨⟨L, rfl, h.mono fun j hj => .inl hj⟩, Only.refl _ _⟩
  clear hh h
  unfold addV
  go_enter Try.func19, Try.ntmps19
  go_wp2_with (go_at_call 11; refine HHas.out.mono ?_; rintro e w1 ⟨rfl, rfl⟩)
  go_ret3
  rw [HE.out]
  exact ⟨rfl, HT.out⟩
set_option maxRecDepth 100000 in
set_option maxHeartbeats 4000000 in
theorem lru_add_free (hk : (Lit.int .i64 k).wf = true) (h : LruM w F p L) (hh : L.st.has k = false) (hl : L.fr.length ≠ L.cap) :
    Calls Try.prog 19 #[.pointer (some ⟨p, 0, none⟩), .int .i64 k] w fun e w' => e = .returned (addV L.st k) ∧ TurnedG w F p (L.st.add k).1 w' := by
  have HHas := Lib.hid (lru_has k hk h)
  rw [hh] at HHas
  have HE := Lib.hid (add_free hh (by rw [st_len]; exact hl))
  have hg : getG L.fr k = none := by
    rw [has_st] at hh
    cases e : getG L.fr k with
    | none => rfl
    | some x => rw [e] at hh; cases hh
  have hll : L.fr.length < L.cap := by
    have := h.ok.len
    rw [st_len] at this
    have e : L.st.cap = L.cap := rfl
    omega
  have hd : decide (L.cap ≤ L.fr.length) = false := decide_eq_false (by omega)
  have HLt := Lib.hid hll
  have HG := Lib.hid hg
  have HL := Lib.hid h
  have c0 := h.ring.c0
  have c6 := h.ring.c6
  have hlen : ∀ ty n, (Builtin.len_ #[52] ty #[.map (some L.mb)]).run Try.prog (w.drewN n) = .ok (.int .i64 (L.fr.length : Int)) (w.drewN n) := fun ty n => (h.map.off ((Only.refl (fun _ => False) w).drewN n) id).len ty
  have hkl := keyI hk
  have hpl := h.ring.kp.lt
  have HC6 : Hid (∀ n o, ((w.drewN n).alloc o).cell? ⟨p, 6, none⟩ = some (.map (some L.mb))) := Lib.hid fun n o => (World.cell?_alloc_lt (w.drewN n) o ⟨p, 6, none⟩ hpl).trans c6
  have hw : ∀ n, LruM (w.drewN n) F p L := fun n => h.only ((Only.refl (fun _ => False) w).drewN n) fun _ _ => id
  have HM : Hid (∀ n, ((w.drewN n).alloc (itemBlk k)).ownsMap Try.prog 3 ptrR L.mb (Maps.size L.D) L.D) := Lib.hid fun n => (hw n).map.map.alloc _
  have HSz : Hid (Maps.size L.D < maxLen) := Lib.hid (by rw [h.map.sz]; have := h.cap; unfold maxLen; omega)
  have HMid : Hid (∀ n w4, w4.ownsMap Try.prog 3 ptrR L.mb (Maps.size L.D + 1) (L.D.put (.int .i64 k) (.lit (.int .i64 (w.heap.size : Int)))) → ((w.drewN n).alloc (itemBlk k)).grownBy w4 (some L.mb) → AddMid (w.drewN n) F p L k w4) := Lib.hid fun n w4 h1 h2 => add_mid (hw n) hk hg h1 h2
  have HEnd : Hid (∀ n w4 w5, AddMid (w.drewN n) F p L k w4 → RingM w5 (AddF F (w.drewN n)) p L.cap L.mb (L.fr ++ [newIt (w.drewN n) k]) → Only (Nodes p (L.fr ++ [newIt (w.drewN n) k])) w4 w5 → TurnedG w F p (L.st.put ⟨k, 0, false⟩) w5) := Lib.hid fun n w4 w5 h1 h2 h3 => by
    have he := add_end (hw n) hg hll h1 h2 h3
    exact turned_end ((Only.refl _ w).drewN n) he.1 he.2 (Nat.lt_of_lt_of_le h1.item.kd.lt h3.size)
  clear hh h hg hl hll hk hw
  unfold addV
  go_enter Try.func19, Try.ntmps19
  go_wp2_with (go_at_call 11; refine HHas.out.mono ?_; rintro e w1 ⟨rfl, rfl⟩)
  go_quiet (fail)
  clear hlen
  have c6' := HC6.out nq (itemBlk k)
  unfold itemBlk at c6'
  go_wp2_with (first
    | (at_mapUpdate; refine wpList_mapUpdate_own _ rfl _ _ _ 52 rfl 3 53 intKey Try.underlying52 ptrR L.mb (Maps.size L.D) L.D rfl (HM.out nq) HSz.out _ _ _ rfl rfl hkl _ [] rfl ?_; intro w4 hown4 hgrow4; have hmid := HMid.out nq w4 hown4 hgrow4)
    | (go_at_call 33; refine (enter_ring hmid.ring hmid.item hmid.ne hmid.d0 hmid.d1).mono ?_; rintro e w5 ⟨rfl, hr5, ho5⟩))
  go_ret3
  rw [HE.out]
  exact ⟨rfl, HEnd.out _ _ _ hmid hr5 ho5⟩

/-- The old item is gone. -/
def Gone (w0 : World) (F : Nat → Prop) (p : Nat) (s : LU) (key : Int) (w2 : World) : Prop := ∃ L2 : LM, L2.st = s.out key ∧ LruM w2 F p L2 ∧ Only F w0 w2
theorem old_key {x : It} (h : LruM w F p L) (ho : L.st.oldest = some x) : (Lit.int .i64 x.key).wf = true ∧ L.st.drop x.key = (L.st.out x.key, true) ∧ L.st.has x.key = true := by
  have hm := List.mem_of_find?_eq_some ho
  have hp : x.pins = 0 := by simpa using List.find?_some ho
  obtain ⟨y, hy, e⟩ := List.mem_map.1 hm
  have hh : L.st.has x.key = true := (LU.has_keys _ _).2 (List.mem_map.2 ⟨x, hm, rfl⟩)
  refine ⟨?_, ?_, hh⟩
  · have := (h.ring.item y hy).wf
    rw [← e]; exact this
  · have hg : L.st.get x.key = some x := by
      obtain ⟨A, B, hL⟩ := List.append_of_mem hy
      have := get_split h.ok hL
      rw [e] at this
      have e2 : y.key = x.key := by rw [← e]; rfl
      rw [e2] at this
      exact this
    unfold LU.drop
    rw [hg]
    simp only [hp, Nat.lt_irrefl, if_false]
theorem gone_drop {x : It} {w1 : World} (h : LruM w1 F p L) (hO : Only F w0 w1) (ho : L.st.oldest = some x) :
    Calls Try.prog 22 #[.pointer (some ⟨p, 0, none⟩), .int .i64 x.key] w1 fun e w2 => e = .returned (.bool true) ∧ Gone w0 F p L.st x.key w2 := by
  obtain ⟨h1, h2, _⟩ := old_key h ho
  refine (lru_drop x.key h1 h).mono ?_
  rintro e w2 ⟨he, ⟨L2, hst, hL2⟩, hO2⟩
  rw [h2] at he hst
  exact ⟨he, L2, hst, hL2, hO.trans hO2 fun j _ hj => hj⟩
theorem oldV_get {s : LU} {x : It} (h : s.oldest = some x) : oldV s = .tuple #[.int .i64 x.key, .bool true] := by unfold oldV; rw [h]
theorem oldV_no {s : LU} (h : s.oldest = none) : oldV s = .tuple #[.int .i64 0, .bool false] := by unfold oldV; rw [h]

set_option maxRecDepth 100000 in
set_option maxHeartbeats 4000000 in
theorem lru_add_full (hk : (Lit.int .i64 k).wf = true) (h : LruM w F p L) (hh : L.st.has k = false) (hl : L.fr.length = L.cap) (ho : L.st.oldest = none) :
    Calls Try.prog 19 #[.pointer (some ⟨p, 0, none⟩), .int .i64 k] w fun e w' => e = .returned (addV L.st k) ∧ TurnedG w F p (L.st.add k).1 w' := by
  have HHas := Lib.hid (lru_has k hk h)
  rw [hh] at HHas
  have HE := Lib.hid (add_full hh (by rw [st_len]; exact hl) ho)
  have hd : decide (L.cap ≤ L.fr.length) = true := decide_eq_true (by omega)
  have c0 := h.ring.c0
  have c6 := h.ring.c6
  have hlen : ∀ ty n, (Builtin.len_ #[52] ty #[.map (some L.mb)]).run Try.prog (w.drewN n) = .ok (.int .i64 (L.fr.length : Int)) (w.drewN n) := fun ty n => (h.map.off ((Only.refl (fun _ => False) w).drewN n) id).len ty
  have hw : ∀ n, LruM (w.drewN n) F p L := fun n => h.only ((Only.refl (fun _ => False) w).drewN n) fun _ _ => id
  have HOld : Hid (∀ n, Calls Try.prog 21 #[.pointer (some ⟨p, 0, none⟩)] (w.drewN n) fun e w' => e = .returned (.tuple #[.int .i64 0, .bool false]) ∧ Below w.heap.size w w') := Lib.hid fun n => (lru_oldest (hw n)).mono fun e w' ⟨h1, h2⟩ => ⟨by rw [h1, oldV_no ho], ⟨h2.os, h2.tape, h2.output, h2.size, h2.block⟩⟩
  have HFin : Hid (∀ w', Below w.heap.size w w' → TurnedG w F p L.st w') := Lib.hid fun w' hb => ⟨⟨L, rfl, (h.only (Only.of_below (F := fun _ => False) hb) fun _ _ => id).mono fun j hj => .inl hj⟩, Only.of_below hb⟩
  clear hh h hl hk hw ho
  unfold addV
  go_enter Try.func19, Try.ntmps19
  go_wp2_with (go_at_call 11; refine HHas.out.mono ?_; rintro e w1 ⟨rfl, rfl⟩)
  go_quiet (fail)
  clear hlen
  go_wp2_with (go_at_call 21; refine (HOld.out _).mono ?_; rintro e w1 ⟨rfl, hb1⟩)
  go_ret3
  rw [HE.out]
  exact ⟨rfl, HFin.out _ hb1⟩

set_option maxRecDepth 100000 in
set_option maxHeartbeats 4000000 in
theorem lru_add_gone {x : It} (hk : (Lit.int .i64 k).wf = true) (h : LruM w F p L) (hh : L.st.has k = false) (hl : L.fr.length = L.cap) (ho : L.st.oldest = some x) :
    Calls Try.prog 19 #[.pointer (some ⟨p, 0, none⟩), .int .i64 k] w fun e w' => e = .returned (addV L.st k) ∧ TurnedG w F p (L.st.add k).1 w' := by
  have HHas := Lib.hid (lru_has k hk h)
  rw [hh] at HHas
  have HE := Lib.hid (add_gone hh (by rw [st_len]; exact hl) ho)
  have hd : decide (L.cap ≤ L.fr.length) = true := decide_eq_true (by omega)
  have c0 := h.ring.c0
  have c6 := h.ring.c6
  have hkl := keyI hk
  have hlen : ∀ ty n, (Builtin.len_ #[52] ty #[.map (some L.mb)]).run Try.prog (w.drewN n) = .ok (.int .i64 (L.fr.length : Int)) (w.drewN n) := fun ty n => (h.map.off ((Only.refl (fun _ => False) w).drewN n) id).len ty
  have hw : ∀ n, LruM (w.drewN n) F p L := fun n => h.only ((Only.refl (fun _ => False) w).drewN n) fun _ _ => id
  have HOld : Hid (∀ n, Calls Try.prog 21 #[.pointer (some ⟨p, 0, none⟩)] (w.drewN n) fun e w' => e = .returned (.tuple #[.int .i64 x.key, .bool true]) ∧ Below w.heap.size w w') := Lib.hid fun n => (lru_oldest (hw n)).mono fun e w' ⟨h1, h2⟩ => ⟨by rw [h1, oldV_get ho], ⟨h2.os, h2.tape, h2.output, h2.size, h2.block⟩⟩
  have HDrop : Hid (∀ w1, Below w.heap.size w w1 → Calls Try.prog 22 #[.pointer (some ⟨p, 0, none⟩), .int .i64 x.key] w1 fun e w2 => e = .returned (.bool true) ∧ Gone w F p L.st x.key w2) := Lib.hid fun w1 hb => gone_drop (h.only (Only.of_below (F := fun _ => False) hb) fun _ _ => id) (Only.of_below hb) ho
  have HP2 : Hid (∀ w2 L2, L2.st = L.st.out x.key → LruM w2 F p L2 → getG L2.fr k = none ∧ L2.fr.length < L2.cap) := Lib.hid (by
    intro w2 L2 hst h2
    obtain ⟨_, _, hhx⟩ := old_key h ho
    constructor
    · have h3 : L2.st.has k = false := by rw [hst, LU.has_out h.ok, hh]; rfl
      rw [has_st] at h3
      cases e : getG L2.fr k with
      | none => rfl
      | some y => rw [e] at h3; cases h3
    · have h3 := LU.len_out hhx
      rw [← hst, st_len, st_len] at h3
      have h4 : L2.cap = L.cap := congrArg LU.cap hst
      omega)
  have HC6 : Hid (∀ w2 L2 o, LruM w2 F p L2 → (w2.alloc o).cell? ⟨p, 6, none⟩ = some (.map (some L2.mb))) := Lib.hid fun w2 L2 o h2 => (World.cell?_alloc_lt w2 o ⟨p, 6, none⟩ h2.ring.kp.lt).trans h2.ring.c6
  have HM : Hid (∀ w2 L2, LruM w2 F p L2 → (w2.alloc (itemBlk k)).ownsMap Try.prog 3 ptrR L2.mb (Maps.size L2.D) L2.D) := Lib.hid fun w2 L2 h2 => h2.map.map.alloc _
  have HSz : Hid (∀ w2 L2, LruM w2 F p L2 → Maps.size L2.D < maxLen) := Lib.hid (by
    intro w2 L2 h2
    have h3 := h2.ok.len
    rw [st_len] at h3
    have h4 := h2.cap
    have h5 : L2.st.cap = L2.cap := rfl
    rw [h2.map.sz]; unfold maxLen; omega)
  have HMid : Hid (∀ w2 L2 w4, L2.st = L.st.out x.key → LruM w2 F p L2 → w4.ownsMap Try.prog 3 ptrR L2.mb (Maps.size L2.D + 1) (L2.D.put (.int .i64 k) (.lit (.int .i64 (w2.heap.size : Int)))) → (w2.alloc (itemBlk k)).grownBy w4 (some L2.mb) → AddMid w2 F p L2 k w4) := Lib.hid fun w2 L2 w4 hs h2 h3 h4 => add_mid h2 hk (HP2.out w2 L2 hs h2).1 h3 h4
  have HEnd : Hid (∀ w2 L2 w4 w5, L2.st = L.st.out x.key → LruM w2 F p L2 → Only F w w2 → AddMid w2 F p L2 k w4 → RingM w5 (AddF F w2) p L2.cap L2.mb (L2.fr ++ [newIt w2 k]) → Only (Nodes p (L2.fr ++ [newIt w2 k])) w4 w5 → TurnedG w F p ((L.st.out x.key).put ⟨k, 0, false⟩) w5) := Lib.hid fun w2 L2 w4 w5 hs h2 hO2 h3 h4 h5 => by
    have he := add_end h2 (HP2.out w2 L2 hs h2).1 (HP2.out w2 L2 hs h2).2 h3 h4 h5
    rw [← hs]
    exact turned_end hO2 he.1 he.2 (Nat.lt_of_lt_of_le h3.item.kd.lt h5.size)
  clear hh h hl hk hw ho HP2
  unfold addV
  go_enter Try.func19, Try.ntmps19
  go_wp2_with (go_at_call 11; refine HHas.out.mono ?_; rintro e w1 ⟨rfl, rfl⟩)
  go_quiet (fail)
  clear hlen
  go_wp2_with (first
    | (go_at_call 21; refine (HOld.out _).mono ?_; rintro e w1 ⟨rfl, hb1⟩)
    | (go_at_call 22; refine (HDrop.out _ hb1).mono ?_; rintro e w2 ⟨rfl, L2, hst2, hL2, hO2⟩; have c6' := HC6.out w2 L2 (itemBlk k) hL2; unfold itemBlk at c6'; have hpl := hL2.ring.kp.lt; have HSt2 := Lib.hid hst2; clear hst2)
    | (at_mapUpdate; refine wpList_mapUpdate_own _ rfl _ _ _ 52 rfl 3 53 intKey Try.underlying52 ptrR L2.mb (Maps.size L2.D) L2.D rfl (HM.out w2 L2 hL2) (HSz.out w2 L2 hL2) _ _ _ rfl rfl hkl _ [] rfl ?_; intro w4 hown4 hgrow4; have hmid := HMid.out w2 L2 w4 HSt2.out hL2 hown4 hgrow4)
    | (go_at_call 33; refine (enter_ring hmid.ring hmid.item hmid.ne hmid.d0 hmid.d1).mono ?_; rintro e w5 ⟨rfl, hr5, ho5⟩))
  go_ret3
  rw [HE.out]
  exact ⟨rfl, HEnd.out _ _ _ _ HSt2.out hL2 hO2 hmid hr5 ho5⟩

theorem lru_add (hk : (Lit.int .i64 k).wf = true) (h : LruM w F p L) :
    Calls Try.prog 19 #[.pointer (some ⟨p, 0, none⟩), .int .i64 k] w fun e w' => e = .returned (addV L.st k) ∧ TurnedG w F p (L.st.add k).1 w' := by
  cases hh : L.st.has k with
  | true => exact lru_add_has hk h hh
  | false =>
    by_cases hl : L.fr.length = L.cap
    · cases ho : L.st.oldest with
      | none => exact lru_add_full hk h hh hl ho
      | some x => exact lru_add_gone hk h hh hl ho
    · exact lru_add_free hk h hh hl
end
end Go.Proofs.Ytopdfhedifcalaa
