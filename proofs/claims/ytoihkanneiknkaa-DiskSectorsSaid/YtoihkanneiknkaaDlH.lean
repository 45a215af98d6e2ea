/- Contracts of the landed disk: made, Read. Conditions: the disk is in memory as named; its numbers are within bounds. -/
import Derived.Test.YtoihkanneiknkaaDlG
import Derived.Test.YtoihkanneiknkaaDkX
import Derived.Carry
namespace Go.Proofs.Ytoihkanneiknkaa
open Go.RowKit Go.Maps
attribute [local go_sem ↓] Go.wp_at_zero Go.wp_at_succ

def newGF (nm : ByteArray) (g : Nat) : GF := ⟨nm, g, .slice none 0 0, [], .slice none 0 0, [], false⟩
theorem newGF_own (nm : ByteArray) (g k : Nat) : ¬ (newGF nm g).Own k := fun h => by
  rcases h with h | h <;> simp [newGF, Value.ownBlock] at h
def LMem.add (L : LMem) (nm : ByteArray) (g : Nat) : LMem := { L with fr := putAt L.fr (lessN nm (L.fr.map (·.name))) (newGF nm g) }
theorem putAt_map {α β : Type} (f : α → β) (l : List α) (k : Nat) (x : α) : (putAt l k x).map f = putAt (l.map f) k (f x) := by
  simp only [putAt, List.map_append, List.map_take, List.map_drop, List.map_cons, List.map_nil]
theorem putAt_sorted (nm : ByteArray) (l : List ByteArray) (hs : l.Pairwise bLt) (hn : nm ∉ l) : (putAt l (lessN nm l) nm).Pairwise bLt := by
  unfold putAt
  rw [List.append_assoc, List.pairwise_append]
  refine ⟨hs.sublist (List.take_sublist _ _), ?_, ?_⟩
  · rw [List.singleton_append, List.pairwise_cons]
    exact ⟨lessN_drop_gt nm l hs hn, hs.sublist (List.drop_sublist _ _)⟩
  · intro x hx y hy
    rw [List.singleton_append, List.mem_cons] at hy
    have h1 := lessN_take nm l x hx
    rcases hy with rfl | hy
    · exact h1
    · exact bLt_trans h1 (lessN_drop_gt nm l hs hn y hy)
theorem add_st (L : LMem) (nm : ByteArray) (g : Nat) (h : getF L.fr nm = none) : (L.add nm g).st = L.st.made nm := by
  unfold RD.made
  rw [getF_find_none h]
  simp only [LMem.st, LMem.add, putAt_map, RD.names, List.map_map, Function.comp_def]
  rfl

section
variable {w w' : World} {F G : Nat → Prop} {p b : Nat} {L : LMem}
/-- A map is made. -/
theorem DiskM.addMap (h : DiskM w F p L) (hm : L.mv = none) :
    DiskM ((w.setCell ⟨p, 1, none⟩ (.map (some w.heap.size))).alloc (.map #[] 0)) (Gr F w ((w.setCell ⟨p, 1, none⟩ (.map (some w.heap.size))).alloc (.map #[] 0))) p { L with mv := some w.heap.size } ∧
      Only F w ((w.setCell ⟨p, 1, none⟩ (.map (some w.heap.size))).alloc (.map #[] 0)) := by
  have hfr : L.fr = [] := by
    rcases h.map with ⟨_, e⟩ | ⟨b, e, _⟩
    · exact e
    · rw [hm] at e; cases e
  have hsz : (w.setCell ⟨p, 1, none⟩ (.map (some w.heap.size))).heap.size = w.heap.size := by simp [World.setCell]
  have ho : Only (fun k => k = p) w ((w.setCell ⟨p, 1, none⟩ (.map (some w.heap.size))).alloc (.map #[] 0)) := ((Only.refl (fun k => k = p) _).setCell (p := ⟨p, 1, none⟩) (.inl rfl) _).alloc _
  have hsub : ∀ k, F k → Gr F w ((w.setCell ⟨p, 1, none⟩ (.map (some w.heap.size))).alloc (.map #[] 0)) k := fun k hk => .inl hk
  refine ⟨{
    blk := by
      have := (h.blk.set_ 1 (.map (some w.heap.size))).alloc (.map #[] 0)
      simpa [LMem.blkOf] using this
    fp := hsub _ h.fp
    map := by
      refine .inr ⟨w.heap.size, rfl, .inr ⟨Nat.le_refl _, by simp [World.setCell]⟩, ?_⟩
      show World.ownsMap _ _ _ _ _ L.fr.length (dmap L.fr)
      rw [hfr]
      have := World.ownsMap_made (w.setCell ⟨p, 1, none⟩ (.map (some w.heap.size))) Try.prog 9 ptrR
      rw [hsz] at this
      exact this
    file := by
      show ∀ f ∈ L.fr, _
      rw [hfr]
      intro f hf
      cases hf
    row := (h.row.off ho fun k hk e => (h.row.kind hk).ne h.kind (by decide) e).mono hsub
    piece := fun q hq => ((h.piece q hq).off ho fun k hk e => ((h.piece q hq).own hk).1.ne h.kind (by decide) e).mono hsub
    srt := h.srt
    apart := h.apart
    clear := h.clear }, ho.mono fun k _ hk => hk ▸ h.fp⟩
/-- A file is made. -/
theorem DiskM.addFile (h : DiskM w F p L) (hmv : L.mv = some b) (nm : ByteArray) (hnm : getF L.fr nm = none) {w1 : World} (g : Nat) (hgz : w.heap.size = g)
    (hown : w1.ownsMap Try.prog 9 ptrR b (L.fr.length + 1) ((dmap L.fr).put (.string nm.data.toList) (.lit (.int .i64 (g : Int)))))
    (hg : (w.alloc (.cells #[.slice none 0 0, .slice none 0 0, .bool false] 81)).grownBy w1 (some b)) : DiskM w1 (Gr F w w1) p (L.add nm g) ∧ Only F w w1 := by
  subst hgz
  have hbl := h.map.lt hmv
  have hgw : w.grownBy w1 (some b) := (World.grownBy_alloc w _ _).andThen hg fun j hj => .inr hj
  have ho : Only (fun k => k = b) w w1 := (Only.refl _ w).grown hgw fun k hk => by injection hk with hk; exact .inl hk.symm
  have hsub : ∀ k, F k → Gr F w w1 k := fun k hk => .inl hk
  have hne : ∀ {T : TypeId} {k : Nat}, Kind w T k → ¬ k = b := fun hk e => h.map.ne hmv hk e.symm
  have hnames := getF_none hnm
  have hmem : ∀ {x : GF}, x ∈ (L.add nm w.heap.size).fr → x ∈ L.fr ∨ x = newGF nm w.heap.size := fun hx => mem_putAt hx
  refine ⟨{
    blk := h.blk.only ho (hne h.kind)
    fp := hsub _ h.fp
    map := by
      refine .inr ⟨b, hmv, hsub _ (h.map.fp hmv), ?_⟩
      have e := dmap_put (newGF nm w.heap.size) L.fr h.srt hnames
      have e2 : (newGF nm w.heap.size).key = .string nm.data.toList := rfl
      rw [e2] at e
      have e3 : (L.add nm w.heap.size).fr.length = L.fr.length + 1 := length_putAt _ _ _
      rw [e3]
      have e4 : (dmap L.fr).put (.string nm.data.toList) (.lit (.int .i64 (w.heap.size : Int))) = dmap (L.add nm w.heap.size).fr := e
      rw [← e4]
      exact hown
    file := fun x hx => by
      rcases hmem hx with hx | rfl
      · exact ((h.file x hx).off ho (hne (h.file x hx).kind) fun k hk => hne ((h.file x hx).own hk).1).mono hsub
      · exact ⟨(Blk.new w 81 _).grown hg (fun e => by injection e with e; omega), .inr ⟨Nat.le_refl _, by have := hg.size; simp at this; show w.heap.size < _; omega⟩, bown_nil _ _, bown_nil _ _, fun k hk => by simp [newGF, Value.ownBlock] at hk⟩
    row := (h.row.off ho fun k hk => hne (h.row.kind hk)).mono hsub
    piece := fun q hq => ((h.piece q hq).off ho fun k hk => hne ((h.piece q hq).own hk).1).mono hsub
    srt := by
      show ((putAt L.fr _ _).map (·.name)).Pairwise bLt
      rw [putAt_map]
      exact putAt_sorted nm _ h.srt fun hm => by
        obtain ⟨f, hf, e⟩ := List.mem_map.1 hm
        exact hnames f hf e
    apart := fun x hx y hy hxy => by
      rcases hmem hx with hx | rfl
      · rcases hmem hy with hy | rfl
        · exact h.apart x hx y hy hxy
        · exact ⟨fun e => by have := (h.file x hx).kind.lt; rw [e] at this; exact Nat.lt_irrefl _ this, fun k _ hk => newGF_own _ _ _ hk⟩
      · rcases hmem hy with hy | rfl
        · exact ⟨fun e => by have := (h.file y hy).kind.lt; rw [← e] at this; exact Nat.lt_irrefl _ this, fun k hk => absurd hk (newGF_own _ _ _)⟩
        · exact absurd rfl hxy
    clear := fun q hq k hk x hx e => by
      rcases hmem hx with hx | rfl
      · exact h.clear q hq k hk x hx e
      · exact newGF_own _ _ _ e }, ho.mono fun k _ hk => by rw [hk]; exact h.map.fp hmv⟩
end

theorem gr_two {w w1 w2 : World} {F : Nat → Prop} (h : Only F w w1) (h2 : Only (Gr F w w1) w1 w2) {k : Nat} (hk : Gr (Gr F w w1) w1 w2 k) : Gr F w w2 k := by
  rcases hk with (hk | hk) | hk
  · exact .inl hk
  · exact .inr ⟨hk.1, by have := h2.size; omega⟩
  · exact .inr ⟨by have := h.size; omega, hk.2⟩
/-- Blocks of bytes are as they were. -/
def Keeps8 (w w' : World) : Prop := ∀ k, Kind w 5 k → w'.heap[k]? = w.heap[k]?
theorem keeps8_of {w w' : World} {G : Nat → Prop} (h : Only G w w') (hG : ∀ k, G k → ¬ Kind w 5 k) : Keeps8 w w' := fun k hk => h.block k hk.lt fun hg => hG k hg hk
theorem add_own {L : LMem} {nm : ByteArray} {g : Nat} : ∀ x ∈ (L.add nm g).fr, ∀ k, x.Own k → ∃ y ∈ L.fr, y.Own k := fun x hx k hk => by
  rcases mem_putAt hx with h | rfl
  · exact ⟨x, h, hk⟩
  · exact absurd hk (newGF_own _ _ _)
/-- A file is there. -/
def MadeL (F : Nat → Prop) (p : Nat) (L : LMem) (nm : ByteArray) (w : World) (e : Ending) (w' : World) : Prop :=
  ∃ L' f, e = .returned (.pointer (some ⟨f.g, 0, none⟩)) ∧ DiskM w' (Gr F w w') p L' ∧ L'.st = L.st.made nm ∧ getF L'.fr nm = some f ∧ Only F w w' ∧ L'.pr = L.pr ∧ L'.wv = L.wv ∧ Keeps8 w w' ∧ ∀ x ∈ L'.fr, ∀ k, x.Own k → ∃ y ∈ L.fr, y.Own k
theorem getF_new (l : List GF) (nm : ByteArray) (g : Nat) (h : getF l nm = none) : getF (putAt l (lessN nm (l.map (·.name))) (newGF nm g)) nm = some (newGF nm g) := by
  unfold getF at h ⊢
  unfold putAt
  rw [List.append_assoc, List.find?_append, List.find?_append]
  have h1 : (l.take (lessN nm (l.map (·.name)))).find? (fun f => decide (f.name = nm)) = none := by
    rw [List.find?_eq_none] at h ⊢
    exact fun x hx => h x (List.mem_of_mem_take hx)
  rw [h1]
  simp [newGF]

set_option maxRecDepth 100000 in
set_option maxHeartbeats 1600000 in
theorem lmade_any (nm : ByteArray) (F : Nat → Prop) (p : Nat) (L : LMem) (w : World) (h : DiskM w F p L) (hn : nm.size ≤ 9223372036854775807) (hfew : L.fr.length ≤ 1152921504606846976) :
    Calls Try.prog 41 #[.pointer (some ⟨p, 0, none⟩), .string nm] w fun e w' => MadeL F p L nm w e w' := by
  obtain ⟨-, c1, -, -, -, -, -⟩ := h.cells
  have fz := h.blk.frozen
  have hp : p < w.heap.size := h.blk.lt
  have hmm := @run_makeMap Try.prog
  have hnil := fun w r => run_eql_map_nil (P := Try.prog) w 63 _ _ r Try.underlying63
  have hlook := look_run h.map nm hn
  unfold ptrOf at hlook
  have HR := Lib.hid h
  rcases hg : getF L.fr nm with _ | f
  · rw [hg] at hlook
    simp only [Option.map_none, Option.isSome_none] at hlook
    have HG := Lib.hid hg
    have HSt := Lib.hid (fun g => add_st L nm g hg)
    rcases hmv : L.mv with _ | b
    · -- no map yet
      rw [hmv] at c1
      have hA := h.addMap hmv
      have hlook2 : (Instr.lookup 63 (.map (some w.heap.size)) (.string nm) true).run Try.prog ((w.setCell ⟨p, 1, none⟩ (.map (some w.heap.size))).alloc (.map #[] 0)) = .ok (.tuple #[.pointer none, .bool false]) ((w.setCell ⟨p, 1, none⟩ (.map (some w.heap.size))).alloc (.map #[] 0)) := by
        have h1 := look_run hA.1.map nm hn
        have hg2 : getF { L with mv := some w.heap.size }.fr nm = none := hg
        unfold ptrOf at h1
        rw [hg2] at h1
        exact h1
      have HA := Lib.hid hA
      have HO : Hid (World.ownsMap ((w.setCell ⟨p, 1, none⟩ (.map (some w.heap.size))).alloc (.map #[] 0)) Try.prog 9 ptrR w.heap.size L.fr.length (dmap L.fr)) := Lib.hid (by
        rcases hA.1.map with ⟨e, _⟩ | ⟨b', e, _, hm⟩
        · cases e
        · injection e with e
          subst e
          exact hm)
      have hkey := strLit (s := nm) (by unfold maxLen; omega)
      have HK8 : Hid (∀ w1, (((w.setCell ⟨p, 1, none⟩ (.map (some w.heap.size))).alloc (.map #[] 0)).alloc (.cells #[.slice none 0 0, .slice none 0 0, .bool false] 81)).grownBy w1 (some w.heap.size) → Keeps8 w w1) := Lib.hid (fun w1 hg1 => keeps8_of (G := fun k => k = p ∨ w.heap.size ≤ k) (((((Only.refl _ w).setCell (p := ⟨p, 1, none⟩) (.inl (.inl rfl)) _).alloc _).alloc _).grown hg1 fun k hk => by injection hk with hk; exact .inr (by omega)) fun k hk e => hk.elim (fun h1 => e.ne h.kind (by decide) h1) fun h1 => by have := e.lt; omega)
      clear h hg hA hmv hlook
      go_enter Try.func41, Try.ntmps41
      go_wp2_with (first
        | (at_mapUpdate; refine wpList_mapUpdate_own _ rfl _ _ _ 63 rfl 9 78 strKey Try.underlying63 ptrR w.heap.size L.fr.length (dmap L.fr) rfl (HO.out.alloc _) (by unfold maxLen; omega) _ _ _ rfl rfl hkey _ [] rfl ?_; intro w1 hown1 hgrow1))
      go_ret
      have hfin := HA.out.1.addFile (b := w.heap.size) rfl nm HG.out (w1 := w1) (w.heap.size + 1) (by simp [World.setCell]) hown1 hgrow1
      exact ⟨_, newGF nm (w.heap.size + 1), rfl, hfin.1.mono fun k hk => gr_two HA.out.2 hfin.2 hk, HSt.out _, getF_new _ _ _ HG.out, HA.out.2.then_ hfin.2, rfl, rfl, HK8.out w1 hgrow1, add_own⟩
    · -- the map is there
      rw [hmv] at c1 hlook
      have HO : Hid (w.ownsMap Try.prog 9 ptrR b L.fr.length (dmap L.fr)) := Lib.hid (by
        rcases h.map with ⟨e, _⟩ | ⟨b', e, _, hm⟩
        · rw [hmv] at e; cases e
        · rw [hmv] at e
          injection e with e
          subst e
          exact hm)
      have hkey := strLit (s := nm) (by unfold maxLen; omega)
      have HMv := Lib.hid hmv
      have HK8 : Hid (∀ w1, (w.alloc (.cells #[.slice none 0 0, .slice none 0 0, .bool false] 81)).grownBy w1 (some b) → Keeps8 w w1) := Lib.hid (fun w1 hg1 => keeps8_of (G := fun k => k = b) (((Only.refl _ w).alloc _).grown hg1 fun k hk => by injection hk with hk; exact .inl hk.symm) fun k hk e => h.map.ne hmv e hk.symm)
      clear h hg hmv
      go_enter Try.func41, Try.ntmps41
      go_wp2_with (first
        | (at_mapUpdate; refine wpList_mapUpdate_own _ rfl _ _ _ 63 rfl 9 78 strKey Try.underlying63 ptrR b L.fr.length (dmap L.fr) rfl (HO.out.alloc _) (by unfold maxLen; omega) _ _ _ rfl rfl hkey _ [] rfl ?_; intro w1 hown1 hgrow1))
      go_ret
      have hfin := HR.out.addFile HMv.out nm HG.out (w1 := w1) w.heap.size rfl hown1 hgrow1
      exact ⟨_, newGF nm w.heap.size, rfl, hfin.1, HSt.out _, getF_new _ _ _ HG.out, hfin.2, rfl, rfl, HK8.out w1 hgrow1, add_own⟩
  · rw [hg] at hlook
    simp only [Option.map_some, Option.isSome_some] at hlook
    have HG := Lib.hid hg
    have HSt : Hid (L.st.made nm = L.st) := Lib.hid (by
      unfold RD.made
      obtain ⟨k, _, _, e⟩ := getF_find_some h.srt hg
      rw [e])
    rcases hmv : L.mv with _ | b
    · rcases h.map with ⟨_, e⟩ | ⟨b, e, _⟩
      · rw [e] at hg; cases hg
      · rw [hmv] at e; cases e
    · rw [hmv] at c1 hlook
      clear h hg hmv
      go_enter Try.func41, Try.ntmps41
      go_wp2
      go_ret
      exact ⟨L, f, rfl, HR.out.mono fun k hk => .inl hk, HSt.out.symm, HG.out, Only.refl _ _, rfl, rfl, fun _ _ => rfl, fun x hx k hk => ⟨x, hx, hk⟩⟩

set_option maxRecDepth 100000 in
set_option maxHeartbeats 1600000 in
theorem lread_any (nm : ByteArray) (at' n : Int) (F : Nat → Prop) (p : Nat) (L : LMem) (w : World) (h : DiskM w F p L) (hf : L.Fine) (hn : nm.size ≤ 9223372036854775807) (ha : -9223372036854775808 ≤ at' ∧ at' ≤ 9223372036854775807) (hnn : -9223372036854775808 ≤ n ∧ n ≤ 9223372036854775807) :
    Calls Try.prog 18 #[.pointer (some ⟨p, 0, none⟩), .string nm, .int .i64 at', .int .i64 n] w fun e w' => ReadAt (L.st.read nm at' n).1 (L.st.read nm at' n).2 w e w' := by
  have HT := Lib.hid (there_any nm F p L w h hn)
  have HR := Lib.hid h
  have hsum := Nat.le_trans (lhad_le h.srt nm) hf.sum
  have hdd : L.st.down = L.down := rfl
  clear h hf
  rcases thereN_cases L nm with ⟨h1, ⟨f, hg, h2⟩, h3, h4⟩ | ⟨h1, h2, hg, h3, h4⟩ | ⟨h1, h2, h3⟩ | ⟨h1, h2, h3, h4⟩
  all_goals rw [h1, h2] at HT
  · have hfm := (getF_some hg).1
    have d0 := (HR.out.file f hfm).cells.1
    obtain ⟨A1, cc1, hnv, hlc1, hcm1, hrd1⟩ := (HR.out.file f hfm).now.value
    rw [hnv] at d0
    have hh := getF_had_some HR.out.srt hg
    have HRd := Lib.hid hrd1
    obtain ⟨i, hi, hie, hif⟩ := getF_find_some HR.out.srt hg
    have HW : Hid (L.st.read nm at' n = if at' < 0 ∨ n < 0 ∨ (f.now.length : Int) < at' ∨ (f.now.length : Int) - at' < n then ([], 2) else ((f.now.drop at'.toNat).take n.toNat, 0)) := Lib.hid (by
      unfold RD.read
      have hget : L.st.files[i]? = some f.toF := by simp only [LMem.st, List.getElem?_map, List.getElem?_eq_getElem hi, hie, Option.map_some]
      rw [if_neg (by rw [h3]; simp), if_neg (by rw [h4]; simp), hif, hh]
      simp only [hget]
      rfl)
    rw [hh] at hsum
    clear h1 h2 h3 h4 hg hnv hfm hh hrd1 hi hie hif hdd
    generalize f.now = now at *
    generalize f.g = g at *
    unfold maxLen at hcm1
    by_cases hbad : at' < 0 ∨ n < 0 ∨ (now.length : Int) < at' ∨ (now.length : Int) - at' < n
    · rw [if_pos hbad] at HW
      have hways : at' < 0 ∨ 0 ≤ at' ∧ n < 0 ∨ 0 ≤ at' ∧ 0 ≤ n ∧ (now.length : Int) - at' < n := by omega
      clear hbad
      rw [HW.out]
      rcases hways with q1 | ⟨q1, q2⟩ | ⟨q1, q2, q3⟩
      all_goals
        go_enter Try.func18, Try.ntmps18
        go_wp2_with (go_at_call 47; refine HT.out.mono ?_; rintro e w' ⟨rfl, rfl⟩)
        go_ret2
        exact readAt_no 2 _ _ rfl
    · rw [if_neg hbad] at HW
      have hw4 : 0 ≤ at' ∧ 0 ≤ n ∧ at' ≤ (now.length : Int) ∧ n ≤ (now.length : Int) - at' := by omega
      obtain ⟨q1, q2, q3, q4⟩ := hw4
      obtain ⟨a, rfl⟩ : ∃ a : Nat, at' = a := ⟨at'.toNat, by omega⟩
      obtain ⟨m, rfl⟩ : ∃ m : Nat, n = m := ⟨n.toNat, by omega⟩
      simp only [Int.toNat_natCast] at HW
      clear hbad
      have hlen : ((now.drop a).take m).length = m := by simp; omega
      have HCp : Hid (∀ A' c', (0 < m → A' = (if cc1 = a then A1 else A1.map (·.add (a * 1)))) → Calls Try.prog 42 #[.slice A' m c'] w fun e w' => ∃ v, e = .returned v ∧ w'.ownsRow w.heap.size 5 1 v ((now.drop a).take m).length (bv ((now.drop a).take m)) ∧ Below w.heap.size w w') := Lib.hid (fun A' c' hA => by
        have hr : Reads w w.heap.size 1 A' ((now.drop a).take m).length (bv ((now.drop a).take m)) := by
          rw [hlen]
          rcases Nat.eq_zero_or_pos m with rfl | hm
          · exact ⟨by simp [bv], fun h => absurd h (by omega)⟩
          · rw [hA hm, bv_take_drop]
            have h1 := (HRd.out.cut (k := a) (cap := cc1) (by omega) (by omega)).pre (n := m) (by omega)
            simpa using h1
        have h1 := clone_any ((now.drop a).take m) A' c' w (by omega) hr
        rw [hlen] at h1 ⊢
        exact h1)
      have hq5 : (a : Int) ≤ (cc1 : Int) := by omega
      have hq6 : a ≤ a + m := by omega
      have hq7 : a + m ≤ cc1 := by omega
      have hq8 : (a : Int) + (m : Int) ≤ (cc1 : Int) := by omega
      rw [HW.out]
      go_enter Try.func18, Try.ntmps18
      go_wp2_with (first | (go_at_call 47; refine HT.out.mono ?_; rintro e w' ⟨rfl, rfl⟩) | (go_at_call 42; refine (HCp.out _ _ (fun hm => by first | (exfalso; omega) | (rw [if_neg (by omega)]; simp only [Nat.mul_one]; done) | (rw [if_neg (by omega)]; simp only [Nat.mul_one]; first | rfl | (split <;> first | omega | rfl)))).mono ?_; rintro e w1 ⟨v1, rfl, ho1, hb1⟩))
      all_goals
        go_ret2
        exact ⟨v1, rfl, ho1, hb1⟩
  · have HW : Hid (L.st.read nm at' n = ([], 6)) := Lib.hid (by unfold RD.read; rw [if_neg (by rw [h3]; simp), if_neg (by rw [h4]; simp), getF_find_none hg])
    rw [HW.out]
    clear h1 h2 h3 h4 hg hdd
    go_enter Try.func18, Try.ntmps18
    go_wp2_with (go_at_call 47; refine HT.out.mono ?_; rintro e w' ⟨rfl, rfl⟩)
    go_ret2
    exact readAt_no 6 _ _ rfl
  · have HW : Hid (L.st.read nm at' n = ([], 1)) := Lib.hid (by unfold RD.read; rw [if_pos h3])
    rw [HW.out]
    clear h1 h2 h3 hdd
    go_enter Try.func18, Try.ntmps18
    go_wp2_with (go_at_call 47; refine HT.out.mono ?_; rintro e w' ⟨rfl, rfl⟩)
    go_ret2
    exact readAt_no 1 _ _ rfl
  · have HW : Hid (L.st.read nm at' n = ([], 8)) := Lib.hid (by unfold RD.read; rw [if_neg (by rw [h3]; simp), if_pos h4])
    rw [HW.out]
    clear h1 h2 h3 h4 hdd
    go_enter Try.func18, Try.ntmps18
    go_wp2_with (go_at_call 47; refine HT.out.mono ?_; rintro e w' ⟨rfl, rfl⟩)
    go_ret2
    exact readAt_no 8 _ _ rfl
end Go.Proofs.Ytoihkanneiknkaa
