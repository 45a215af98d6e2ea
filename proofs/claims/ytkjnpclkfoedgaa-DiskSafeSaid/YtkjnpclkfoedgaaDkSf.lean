/- Plain facts on the abstract disk: a file that is safe, of which nothing waits, stays as it is whatever other files do and whenever the power goes. Conditions: those that each theorem names. -/
import Derived.Test.YtkjnpclkfoedgaaDkRm
import Derived.Test.YtkjnpclkfoedgaaDkDf
namespace Go.Proofs.Ytkjnpclkfoedgaa

def RD.own (s : RD) (nm : ByteArray) : List RF := s.files.filter fun f => decide (f.name = nm)
def RD.ownP (s : RD) (nm : ByteArray) : List RP := s.pend.filter fun q => decide (q.name = nm)
/-- All that is there of a name is safe. -/
structure Held (s : RD) (nm : ByteArray) (l : List RF) : Prop where
  own : s.own nm = l
  pend : s.ownP nm = []
  safe : ∀ f ∈ l, f.now = f.safe ∧ f.sure = true
section
variable {s : RD} {nm x : ByteArray} {l : List RF}
theorem filter_set {α : Type} (p : α → Bool) (l : List α) (k : Nat) (a b : α) (h : l[k]? = some a) (ha : p a = false) (hb : p b = false) : (l.set k b).filter p = l.filter p := by
  induction l generalizing k with
  | nil => rfl
  | cons y l ih =>
    cases k with
    | zero =>
      simp at h
      subst h
      simp [ha, hb]
    | succ k =>
      rw [List.set_cons_succ, List.filter_cons, List.filter_cons, ih k (by simpa using h)]
theorem own_setF {k : Nat} {g : RF → RF} (h : ∀ f, s.files[k]? = some f → f.name ≠ nm ∧ (g f).name ≠ nm) : (s.setF k g).own nm = s.own nm := by
  unfold RD.own RD.setF
  rcases hk : s.files[k]? with _ | f
  · rfl
  · obtain ⟨h1, h2⟩ := h f hk
    exact filter_set _ s.files k f (g f) hk (by simpa using h1) (by simpa using h2)
theorem own_made (h : x ≠ nm) : (s.made x).own nm = s.own nm := by
  unfold RD.made
  split
  · rfl
  · unfold RD.own putAt
    show List.filter _ (_ ++ [_] ++ _) = _
    rw [List.filter_append, List.filter_append]
    have e : [(⟨x, [], [], false⟩ : RF)].filter (fun f => decide (f.name = nm)) = [] := by simp [h]
    rw [e, List.append_nil, ← List.filter_append, List.take_append_drop]
theorem ownP_append {q : List RP} (h : ∀ y ∈ q, y.name ≠ nm) : (s.pend ++ q).filter (fun q => decide (q.name = nm)) = s.ownP nm := by
  rw [List.filter_append]
  have e : q.filter (fun q => decide (q.name = nm)) = [] := List.filter_eq_nil_iff.2 fun y hy => by simpa using h y hy
  rw [e, List.append_nil]
  rfl
theorem Held.write (h : Held s nm l) (hx : x ≠ nm) (at' : Int) (b : List UInt8) : Held (s.write x at' b).1 nm l := by
  unfold RD.write
  split
  · exact h
  split
  · exact h
  split
  · exact h
  split
  · exact h
  split
  · exact h
  split
  · exact ⟨h.own, h.pend, h.safe⟩
  refine ⟨?_, ?_, h.safe⟩
  · have h1 : ((s.ticked.made x).setF (s.at_ x) fun f => { f with now := layB f.now at'.toNat b }).own nm = s.own nm := by
      rw [own_setF, own_made hx]
      · rfl
      · intro f hf
        have := made_at s.ticked x f hf
        exact ⟨fun e => hx (this.symm.trans e), fun e => hx (this.symm.trans e)⟩
    exact h1.trans h.own
  · have e1 : ((s.ticked.made x).setF (s.at_ x) fun f => { f with now := layB f.now at'.toNat b }).pend = s.pend := made_pend s.ticked x
    show List.filter _ (((s.ticked.made x).setF (s.at_ x) fun f => { f with now := layB f.now at'.toNat b }).pend ++ _) = []
    rw [e1, ownP_append, h.pend]
    intro y hy e
    have := ((pieces_on x at'.toNat b (List.replicate at'.toNat 0) (by simp)).1 y hy).1
    exact hx (this.symm.trans e)
theorem Held.cut (h : Held s nm l) (hx : x ≠ nm) (n : Int) : Held (s.cut x n).1 nm l := by
  unfold RD.cut
  split
  · exact h
  split
  · exact h
  split
  · exact h
  rename_i i hi
  split
  · exact h
  split
  · exact ⟨h.own, h.pend, h.safe⟩
  refine ⟨?_, ?_, h.safe⟩
  · have h1 : (s.ticked.setF i fun f => { f with now := f.now.take n.toNat }).own nm = s.own nm := by
      rw [own_setF]
      · rfl
      · intro f hf
        obtain ⟨f', e1, e2, _⟩ := find_file hi
        have e3 : some f' = some f := e1.symm.trans hf
        injection e3 with e3
        subst e3
        exact ⟨fun e => hx (e2.symm.trans e), fun e => hx (e2.symm.trans e)⟩
    exact h1.trans h.own
  · show List.filter _ (s.pend ++ _) = []
    rw [ownP_append, h.pend]
    intro y hy
    simp at hy
    rw [hy]
    exact hx
theorem filter_other (l : List RP) (hx : x ≠ nm) : (l.filter fun q => decide (q.name ≠ x)).filter (fun q => decide (q.name = nm)) = l.filter fun q => decide (q.name = nm) := by
  rw [List.filter_filter]
  refine List.filter_congr fun q _ => ?_
  by_cases h : q.name = nm
  · simp [h, Ne.symm hx]
  · simp [h]
theorem Held.sync (h : Held s nm l) (hx : x ≠ nm) : Held (s.sync x).1 nm l := by
  unfold RD.sync
  split
  · exact h
  split
  · exact h
  split
  · exact h
  rename_i i hi
  split
  · exact ⟨h.own, h.pend, h.safe⟩
  refine ⟨?_, ?_, h.safe⟩
  · have h1 : (s.ticked.setF i fun f => { f with safe := f.now, sure := true }).own nm = s.own nm := by
      rw [own_setF]
      · rfl
      · intro f hf
        obtain ⟨f', e1, e2, _⟩ := find_file hi
        have e3 : some f' = some f := e1.symm.trans hf
        injection e3 with e3
        subst e3
        exact ⟨fun e => hx (e2.symm.trans e), fun e => hx (e2.symm.trans e)⟩
    exact h1.trans h.own
  · show List.filter _ (List.filter _ s.pend) = []
    rw [filter_other _ hx]
    exact h.pend
theorem Held.load (h : Held s nm l) (hx : x ≠ nm) (b : List UInt8) : Held (s.load x b).1 nm l := by
  unfold RD.load
  split
  · exact h
  split
  · exact h
  refine ⟨?_, ?_, h.safe⟩
  · have h1 : (((s.settled x).made x).setF (s.at_ x) fun _ => ⟨x, b, b, true⟩).own nm = s.own nm := by
      rw [own_setF, own_made hx]
      · rfl
      · intro f hf
        have := made_at (s.settled x) x f hf
        exact ⟨fun e => hx (this.symm.trans e), hx⟩
    exact h1.trans h.own
  · have e1 : (((s.settled x).made x).setF (s.at_ x) fun _ => (⟨x, b, b, true⟩ : RF)).pend = s.pend.filter fun q => decide (q.name ≠ x) := made_pend (s.settled x) x
    show List.filter _ (((s.settled x).made x).setF (s.at_ x) fun _ => (⟨x, b, b, true⟩ : RF)).pend = []
    rw [e1, filter_other _ hx]
    exact h.pend
theorem Held.arm (h : Held s nm l) (n : Int) : Held (s.arm n).1 nm l := by
  unfold RD.arm
  split
  · exact h
  · exact ⟨h.own, h.pend, h.safe⟩
theorem fold_none (picks : List Int) (pend : List (RP × Nat)) (st : List UInt8 × Bool) (h : ∀ q ∈ pend, q.1.name ≠ nm) : pend.foldl (crashStep nm picks) st = st := by
  induction pend generalizing st with
  | nil => rfl
  | cons q l ih =>
    rw [List.foldl_cons]
    have e : crashStep nm picks st q = st := by
      unfold crashStep
      rw [if_pos (.inl (h q List.mem_cons_self))]
    rw [e]
    exact ih st fun y hy => h y (List.mem_cons_of_mem _ hy)
theorem crashFile_self {f : RF} {picks : List Int} {pend : List RP} (hf : f.name = nm) (hp : pend.filter (fun q => decide (q.name = nm)) = []) (h1 : f.now = f.safe) (h2 : f.sure = true) : crashFile picks pend f = some f := by
  have e : crashTo f picks pend pend.length = (f.safe, f.sure) := by
    unfold crashTo
    rw [hf]
    refine fold_none picks _ _ fun q hq => ?_
    have h3 : q ∈ pend.zipIdx := List.mem_of_mem_take hq
    have h4 : q.1 ∈ pend := List.fst_mem_of_mem_zipIdx h3
    have h5 := List.filter_eq_nil_iff.1 hp q.1 h4
    simpa using h5
  unfold crashFile
  rw [e]
  simp only [h2, if_true]
  obtain ⟨a, b, c, d⟩ := f
  simp only at h1 h2
  rw [h1, h2]
theorem filter_filterMap {α : Type} (p : α → Bool) (φ : α → Option α) (l : List α) (h1 : ∀ a ∈ l, p a = true → φ a = some a) (h2 : ∀ a ∈ l, p a = false → ∀ b, φ a = some b → p b = false) : (l.filterMap φ).filter p = l.filter p := by
  induction l with
  | nil => rfl
  | cons a l ih =>
    have ih' := ih (fun x hx => h1 x (List.mem_cons_of_mem _ hx)) fun x hx => h2 x (List.mem_cons_of_mem _ hx)
    rcases ha : p a with _ | _
    · rw [List.filter_cons, if_neg (by simp [ha]), List.filterMap_cons]
      rcases hb : φ a with _ | b
      · exact ih'
      · show (b :: l.filterMap φ).filter p = _
        rw [List.filter_cons, if_neg (by rw [h2 a List.mem_cons_self ha b hb]; simp)]
        exact ih'
    · rw [List.filter_cons, if_pos ha, List.filterMap_cons, h1 a List.mem_cons_self ha]
      show (a :: l.filterMap φ).filter p = _
      rw [List.filter_cons, if_pos ha, ih']
theorem Held.crash (h : Held s nm l) (picks : List Int) : Held (s.crash picks) nm l := by
  refine ⟨?_, rfl, h.safe⟩
  have e : (s.crash picks).own nm = s.own nm := by
    show (s.files.filterMap (crashFile picks s.pend)).filter _ = s.files.filter _
    refine filter_filterMap _ _ _ (fun f hf hp => ?_) fun f hf hp g hg => ?_
    · have h3 : f ∈ s.own nm := List.mem_filter.2 ⟨hf, hp⟩
      rw [h.own] at h3
      obtain ⟨e1, e2⟩ := h.safe f h3
      exact crashFile_self (by simpa using hp) h.pend e1 e2
    · rw [crashFile_name hg]
      exact hp
  exact e.trans h.own
theorem Held.step (h : Held s nm l) (c : Cl) (hx : c.name ≠ nm) : Held (s.step c) nm l := by
  unfold RD.step
  split
  · exact h.write hx _ _
  split
  · exact h.cut hx _
  split
  · exact h.sync hx
  split
  · exact h
  split
  · exact h.load hx _
  split
  · exact h.arm _
  split
  · exact h.crash _
  · exact h
theorem Held.find (h : Held s nm []) : s.find nm = none := pos_none.2 fun hm => by
  obtain ⟨f, hf, e⟩ := List.mem_map.1 hm
  have : f ∈ s.own nm := List.mem_filter.2 ⟨hf, by simpa using e⟩
  rw [h.own] at this
  cases this
theorem Held.read_none (h : Held s nm []) (hd : s.down = false) (hn : named nm = true) (a n : Int) : s.read nm a n = ([], 6) := by
  unfold RD.read
  rw [hn, hd, h.find]
  rfl
theorem Held.at_ {b : List UInt8} (h : Held s nm [⟨nm, b, b, true⟩]) : ∃ k, ∃ hk : k < s.files.length, s.files[k] = ⟨nm, b, b, true⟩ := by
  have : (⟨nm, b, b, true⟩ : RF) ∈ s.own nm := by rw [h.own]; exact List.mem_singleton_self _
  exact List.mem_iff_getElem.1 (List.mem_filter.1 this).1
theorem Held.read {b : List UInt8} (h : Held s nm [⟨nm, b, b, true⟩]) (hs : s.Nice) (hd : s.down = false) : s.read nm 0 (b.length : Int) = (b, 0) := by
  obtain ⟨k, hk, e⟩ := h.at_
  have := read_at hs hd k hk
  rw [e] at this
  exact this
theorem Held.size {b : List UInt8} (h : Held s nm [⟨nm, b, b, true⟩]) (hs : s.Nice) (hd : s.down = false) : s.size nm = (b.length : Int) := by
  obtain ⟨k, hk, e⟩ := h.at_
  have := size_at hs hd k hk
  rw [e] at this
  exact this
theorem held_new (room : Int) : Held (RD.new room) nm [] := ⟨rfl, rfl, fun f hf => by cases hf⟩
/-- One file is written, .. -/
def S1 (room : Int) (nm : ByteArray) (b : List UInt8) : RD := ⟨room, 1, 0, false, false, [⟨nm, b, [], false⟩], pieces nm 0 b⟩
/-- .. and synced. -/
def S2 (room : Int) (nm : ByteArray) (b : List UInt8) : RD := ⟨room, 2, 0, false, false, [⟨nm, b, b, true⟩], []⟩
theorem start_write (room : Int) (b : List UInt8) (hn : named nm = true) (hb : b ≠ []) (hr : (b.length : Int) ≤ room) : (RD.new room).write nm 0 b = (S1 room nm b, 0) := by
  have hb2 : layB [] 0 b = b := by simp [layB]
  have hf : (RD.new room).fits nm (max ((RD.new room).had nm) (0 + b.length)) = 0 := by
    unfold RD.fits
    rw [if_neg (by simp [RD.new]), if_neg]
    simp only [RD.had, RD.find, RD.names, RD.new, RD.sum, pos, List.map_nil, List.sum_nil]
    omega
  unfold RD.write
  rw [hn, if_neg (by simp), if_neg (by simp [RD.new]), if_neg (by simp), if_neg hb]
  simp only [Int.toNat_zero]
  rw [if_neg (by rw [hf]; simp), if_neg (by simp [RD.stops, RD.new])]
  simp only [RD.ticked, RD.made, RD.find, RD.names, RD.new, RD.at_, RD.setF, pos, List.map_nil, lessN, putAt, List.take_nil, List.drop_nil, List.nil_append, List.append_nil, List.getElem?_cons_zero, List.set_cons_zero, hb2]
  rfl
theorem pieces_none (b : List UInt8) : (pieces nm 0 b).filter (fun q => decide (q.name ≠ nm)) = [] := List.filter_eq_nil_iff.2 fun q hq => by simp [((pieces_on nm 0 b [] (by simp)).1 q hq).1]
theorem start_sync (room : Int) (b : List UInt8) (hn : named nm = true) : (S1 room nm b).sync nm = (S2 room nm b, 0) := by
  unfold RD.sync
  rw [hn, if_neg (by simp), if_neg (by simp [S1])]
  have e : (S1 room nm b).find nm = some 0 := by simp [S1, RD.find, RD.names, pos]
  rw [e]
  have e2 := pieces_none (nm := nm) b
  simp only [S1, RD.stops, RD.ticked, RD.setF, RD.settled, S2, e2]
  rfl
theorem held_start (room : Int) (b : List UInt8) : Held (S2 room nm b) nm [⟨nm, b, b, true⟩] := ⟨by simp [RD.own, S2], rfl, fun f hf => by simp at hf; rw [hf]; exact ⟨rfl, rfl⟩⟩
theorem start_well (room : Int) (b : List UInt8) (hn : named nm = true) (h0 : 0 ≤ room ∧ room ≤ 1152921504606846976) (hb : b.length ≤ 5000) : Well (S1 room nm b) 5002 ∧ Well (S2 room nm b) 5002 := by
  have hp := (piecesTo_le nm 0 b b.length).2
  refine ⟨⟨⟨h0, ⟨by simp [S1], by simp [S1]⟩, ⟨by simp [S1], by simp [S1]⟩, by simp [S1], fun f hf => ?_, by show (pieces nm 0 b).length ≤ _; unfold pieces; omega, fun q hq => ?_⟩, ⟨fun f hf => ?_, by simp [RD.names, S1]⟩, by omega⟩,
    ⟨⟨h0, ⟨by simp [S2], by simp [S2]⟩, ⟨by simp [S2], by simp [S2]⟩, by simp [S2], fun f hf => ?_, Nat.zero_le _, fun q hq => by cases hq⟩, ⟨fun f hf => ?_, by simp [RD.names, S2]⟩, by omega⟩⟩
  · simp [S1] at hf
    rw [hf]
    exact ⟨by simp only; omega, Nat.zero_le _⟩
  · have := piecesTo_ends nm 0 b b.length q hq
    omega
  · simp [S1] at hf
    rw [hf]
    exact hn
  · simp [S2] at hf
    rw [hf]
    exact ⟨by simp only; omega, by simp only; omega⟩
  · simp [S2] at hf
    rw [hf]
    exact hn
end
end Go.Proofs.Ytkjnpclkfoedgaa
