/- Plain facts on the abstract disk with one file that is written by whole sectors: each sector stays whole. Conditions: those that each theorem names. -/
import Derived.Test.YtoihkanneiknkaaDkRm
namespace Go.Proofs.Ytoihkanneiknkaa

def secs (v : List UInt8) : List UInt8 := v.flatMap (List.replicate 64)
theorem secs_cons (x : UInt8) (v : List UInt8) : secs (x :: v) = List.replicate 64 x ++ secs v := by simp [secs]
theorem secs_append (a b : List UInt8) : secs (a ++ b) = secs a ++ secs b := by simp [secs]
theorem secs_length (v : List UInt8) : (secs v).length = 64 * v.length := by
  induction v with
  | nil => rfl
  | cons x v ih => rw [secs_cons, List.length_append, List.length_replicate, ih, List.length_cons]; omega
theorem secs_take (v : List UInt8) (k : Nat) : (secs v).take (64 * k) = secs (v.take k) := by
  induction v generalizing k with
  | nil => simp [secs]
  | cons x v ih =>
    cases k with
    | zero => simp [secs]
    | succ k =>
      have e : 64 * (k + 1) = (List.replicate 64 x).length + 64 * k := by rw [List.length_replicate]; omega
      rw [secs_cons, e, List.take_length_add_append, ih, List.take_succ_cons, secs_cons]
theorem secs_drop (v : List UInt8) (k : Nat) : (secs v).drop (64 * k) = secs (v.drop k) := by
  induction v generalizing k with
  | nil => simp [secs]
  | cons x v ih =>
    cases k with
    | zero => simp
    | succ k =>
      have e : 64 * (k + 1) = (List.replicate 64 x).length + 64 * k := by rw [List.length_replicate]; omega
      rw [secs_cons, e, List.drop_length_add_append, ih, List.drop_succ_cons]
theorem secs_rep (n : Nat) (x : UInt8) : secs (List.replicate n x) = List.replicate (64 * n) x := by
  induction n with
  | zero => rfl
  | succ n ih => rw [List.replicate_succ, secs_cons, ih, List.replicate_append_replicate]; congr 1; omega
theorem secs_set (v : List UInt8) (k : Nat) (x : UInt8) (h : k < v.length) : layB (secs v) (64 * k) (List.replicate 64 x) = secs (v.set k x) := by
  rw [layB_eq _ _ _ (by rw [secs_length]; omega), List.length_replicate, secs_take]
  have e : 64 * k + 64 = 64 * (k + 1) := by omega
  rw [e, secs_drop, List.set_eq_take_append_cons_drop, if_pos h, secs_append, secs_cons, List.append_assoc]
theorem secs_get (v : List UInt8) (k : Nat) (h : k < v.length) : ((secs v).drop (64 * k)).take 64 = List.replicate 64 (v.getD k 0) := by
  rw [secs_drop, List.drop_eq_getElem_cons h, secs_cons]
  have e : 64 = (List.replicate 64 v[k]).length := by rw [List.length_replicate]
  rw [List.take_left' (by rw [List.length_replicate])]
  rw [List.getD_eq_getElem?_getD, List.getElem?_eq_getElem h]
  rfl
def secP (nm : ByteArray) (k : Nat) (x : UInt8) : RP := ⟨nm, 64 * k, List.replicate 64 x, false⟩
theorem pieces_secs (nm : ByteArray) (a n : Nat) (x : UInt8) : pieces nm (64 * a) (List.replicate (64 * n) x) = (List.range n).map fun i => secP nm (a + i) x := by
  have key : ∀ i, i ≤ n → piecesTo nm (64 * a) (List.replicate (64 * n) x) (64 * i) = (64 * i, (List.range i).map fun i => secP nm (a + i) x) := by
    intro i
    induction i with
    | zero => intro _; rfl
    | succ i ih =>
      intro hi
      have h1 := pieces_step nm (64 * a) (List.replicate (64 * n) x) (64 * i) 64 _ (ih (by omega)) (by rw [List.length_replicate]; omega) (by rw [List.length_replicate]; omega)
      have e : 64 * (i + 1) = 64 * i + 64 := by omega
      rw [e, h1, List.range_succ, List.map_append, List.map_cons, List.map_nil]
      have e2 : ((List.replicate (64 * n) x).drop (64 * i)).take 64 = List.replicate 64 x := by
        rw [List.drop_replicate, List.take_replicate]
        congr 1
        omega
      rw [e2]
      unfold secP
      congr 4
      omega
  have h1 := key n (Nat.le_refl n)
  unfold pieces
  rw [List.length_replicate, h1]
theorem on_secs (nm : ByteArray) (v : List UInt8) (k : Nat) (x : UInt8) (h : k < v.length) : (secP nm k x).on (secs v) = secs (v.set k x) := secs_set v k x h
theorem getD_set (v : List UInt8) (k j : Nat) (x : UInt8) (h : k < v.length) : (v.set k x).getD j 0 = if j = k then x else v.getD j 0 := by
  rw [List.getD_eq_getElem?_getD, List.getD_eq_getElem?_getD, List.getElem?_set]
  by_cases e : k = j
  · subst e
    rw [if_pos rfl, if_pos h, if_pos rfl]
    rfl
  · rw [if_neg e, if_neg (fun h => e h.symm)]
theorem onAll_secs (nm : ByteArray) (v : List UInt8) (a n : Nat) (x : UInt8) (h : a + n ≤ v.length) :
    ∃ v', onAll ((List.range n).map fun i => secP nm (a + i) x) (secs v) = secs v' ∧ v'.length = v.length ∧ ∀ k, v'.getD k 0 = if a ≤ k ∧ k < a + n then x else v.getD k 0 := by
  induction n with
  | zero => exact ⟨v, rfl, rfl, fun k => by rw [if_neg (by omega)]⟩
  | succ n ih =>
    obtain ⟨v', h1, h2, h3⟩ := ih (by omega)
    refine ⟨v'.set (a + n) x, ?_, by rw [List.length_set, h2], fun k => ?_⟩
    · rw [List.range_succ, List.map_append, onAll_append, h1]
      exact on_secs nm v' (a + n) x (by omega)
    · rw [getD_set _ _ _ _ (by omega), h3 k]
      by_cases e : k = a + n
      · rw [if_pos e, if_pos (by omega)]
      · rw [if_neg e]
        by_cases e2 : a ≤ k ∧ k < a + n
        · rw [if_pos e2, if_pos (by omega)]
        · rw [if_neg e2, if_neg (by omega)]

/-- One file of twelve sectors; M says what each sector may hold. -/
structure SecS (s : RD) (nm : ByteArray) (M : Nat → List UInt8) (sv nv : List UInt8) (i : Nat) : Prop where
  files : s.files = [⟨nm, secs nv, secs sv, true⟩]
  down : s.down = false
  armed : s.armed = false
  room : s.room = 100000
  left : s.left = 0
  chg : 0 ≤ s.changes ∧ s.changes ≤ 2 * (i : Int)
  plen : s.pend.length ≤ 12 * i
  pend : ∀ q ∈ s.pend, ∃ k x, k < 12 ∧ q = secP nm k x ∧ x ∈ M k
  sl : sv.length = 12
  nl : nv.length = 12
  safe : ∀ k, k < 12 → sv.getD k 0 ∈ M k
  now : ∀ k, k < 12 → (M k).getLast? = some (nv.getD k 0)
section
variable {s : RD} {nm : ByteArray} {M : Nat → List UInt8} {sv nv : List UInt8} {i : Nat}
theorem SecS.find (h : SecS s nm M sv nv i) : s.find nm = some 0 := by simp [RD.find, RD.names, h.files, pos]
theorem SecS.had (h : SecS s nm M sv nv i) : s.had nm = 768 := by
  unfold RD.had
  rw [h.find, h.files]
  simp [secs_length, h.nl]
theorem SecS.well (h : SecS s nm M sv nv i) (hn : named nm = true) (hi : i ≤ 100) : Well s 2000 := by
  have hc := h.chg
  have hp := h.plen
  refine ⟨⟨by rw [h.room]; omega, ⟨hc.1, by omega⟩, by rw [h.left]; omega, by rw [h.files]; simp, fun f hf => ?_, by omega, fun q hq => ?_⟩, ⟨fun f hf => ?_, by simp [RD.names, h.files]⟩, by omega⟩
  · rw [h.files] at hf
    simp at hf
    rw [hf]
    simp [secs_length, h.nl, h.sl]
  · obtain ⟨k, x, hk, rfl, _⟩ := h.pend q hq
    simp only [secP, List.length_replicate]
    omega
  · rw [h.files] at hf
    simp at hf
    rw [hf]
    exact hn
theorem SecS.write (h : SecS s nm M sv nv i) (hn : named nm = true) (a n : Nat) (x : UInt8) (ha : a + n ≤ 12) :
    (s.write nm (64 * (a : Int)) (List.replicate (64 * n) x)).2 = 0 ∧ ∃ nv', SecS (s.write nm (64 * (a : Int)) (List.replicate (64 * n) x)).1 nm (fun k => if a ≤ k ∧ k < a + n then M k ++ [x] else M k) sv nv' (i + 1) := by
  have hc := h.chg
  have hp := h.plen
  have hat : ((64 * (a : Int)).toNat) = 64 * a := by omega
  unfold RD.write
  rw [hn, if_neg (by simp), h.down, if_neg (by simp), h.had, if_neg (by omega), hat]
  rcases Nat.eq_zero_or_pos n with h0 | h0
  · subst h0
    rw [if_pos (by simp)]
    have e : (fun k => if a ≤ k ∧ k < a + 0 then M k ++ [x] else M k) = M := by
      funext k
      rw [if_neg (by omega)]
    rw [e]
    exact ⟨rfl, nv, h.files, h.down, h.armed, h.room, h.left, ⟨hc.1, (by show s.changes ≤ 2 * ((i + 1 : Nat) : Int); omega)⟩, (by show s.pend.length ≤ 12 * (i + 1); omega), h.pend, h.sl, h.nl, h.safe, h.now⟩
  · have hb : List.replicate (64 * n) x ≠ [] := by
      intro e
      have := congrArg List.length e
      rw [List.length_replicate] at this
      simp at this
      omega
    rw [if_neg hb]
    have hf : s.fits nm (max 768 (64 * a + (List.replicate (64 * n) x).length)) = 0 := by
      unfold RD.fits
      rw [h.find, h.had, if_neg (by simp), if_neg (by rw [List.length_replicate]; omega)]
    rw [if_neg (by rw [hf]; simp)]
    have hs : s.stops = false := by unfold RD.stops; rw [h.armed]; rfl
    rw [hs, if_neg (by simp)]
    have e1 : s.ticked.made nm = s.ticked := made_self (k := 0) h.find
    have e2 : s.at_ nm = 0 := by unfold RD.at_; rw [h.find]
    rw [e1, e2, pieces_secs]
    obtain ⟨v', h1, h2, h3⟩ := onAll_secs nm nv a n x (by rw [h.nl]; exact ha)
    have h4 := (pieces_on nm (64 * a) (List.replicate (64 * n) x) (secs nv) (by rw [secs_length, h.nl]; omega)).2
    rw [pieces_secs, h1] at h4
    refine ⟨rfl, v', ?_, h.down, h.armed, h.room, ?_, ?_, ?_, fun q hq => ?_, h.sl, by rw [h2, h.nl], fun k hk => ?_, fun k hk => ?_⟩
    · show (s.ticked.setF 0 _).files = _
      unfold RD.setF
      have e3 : s.ticked.files = [⟨nm, secs nv, secs sv, true⟩] := h.files
      rw [e3]
      simp [h4]
    · show (if s.armed then s.left - 1 else s.left) = 0
      rw [h.armed]
      exact h.left
    · show 0 ≤ s.changes + 1 ∧ s.changes + 1 ≤ 2 * ((i + 1 : Nat) : Int)
      omega
    · show (s.pend ++ (List.range n).map _).length ≤ _
      rw [List.length_append, List.length_map, List.length_range]
      omega
    · rcases List.mem_append.1 hq with hq | hq
      · obtain ⟨k, y, hk, e, hy⟩ := h.pend q hq
        refine ⟨k, y, hk, e, ?_⟩
        try dsimp only
        split
        · exact List.mem_append_left _ hy
        · exact hy
      · obtain ⟨j, hj, rfl⟩ := List.mem_map.1 hq
        have hj' := List.mem_range.1 hj
        refine ⟨a + j, x, by omega, rfl, ?_⟩
        try dsimp only
        rw [if_pos (by omega)]
        simp
    · try dsimp only
      split
      · exact List.mem_append_left _ (h.safe k hk)
      · exact h.safe k hk
    · try dsimp only
      rw [h3 k]
      split
      · simp
      · exact h.now k hk
theorem drop_last (l : List UInt8) (h : l ≠ []) : l.drop (l.length - 1) = [l.getLast h] := by
  obtain ⟨a, x, rfl⟩ : ∃ a x, l = a ++ [x] := ⟨l.dropLast, l.getLast h, (List.dropLast_concat_getLast h).symm⟩
  simp
theorem SecS.sync (h : SecS s nm M sv nv i) (hn : named nm = true) : (s.sync nm).2 = 0 ∧ SecS (s.sync nm).1 nm (fun k => (M k).drop ((M k).length - 1)) nv nv (i + 1) := by
  have hc := h.chg
  have hp := h.plen
  have hM : ∀ k, k < 12 → (M k).drop ((M k).length - 1) = [nv.getD k 0] := fun k hk => by
    have h1 := h.now k hk
    have hne : M k ≠ [] := fun e => by rw [e] at h1; cases h1
    rw [List.getLast?_eq_some_getLast hne] at h1
    injection h1 with h1
    rw [← h1, drop_last _ hne]
  unfold RD.sync
  rw [hn, if_neg (by simp), h.down, if_neg (by simp), h.find]
  have hs : s.stops = false := by unfold RD.stops; rw [h.armed]; rfl
  simp only
  rw [hs, if_neg (by simp)]
  refine ⟨rfl, ?_, h.down, h.armed, h.room, ?_, ?_, ?_, fun q hq => ?_, h.nl, h.nl, fun k hk => ?_, fun k hk => ?_⟩
  · show (s.ticked.setF 0 _).files = _
    unfold RD.setF
    have e3 : s.ticked.files = [⟨nm, secs nv, secs sv, true⟩] := h.files
    rw [e3]
    simp
  · show (if s.armed then s.left - 1 else s.left) = 0
    rw [h.armed]
    exact h.left
  · show 0 ≤ s.changes + 1 ∧ s.changes + 1 ≤ 2 * ((i + 1 : Nat) : Int)
    omega
  · show (List.filter _ s.pend).length ≤ _
    have := List.length_filter_le (fun q : RP => decide (q.name ≠ nm)) s.pend
    omega
  · have hq' : q ∈ s.pend.filter fun q => decide (q.name ≠ nm) := hq
    obtain ⟨h1, h2⟩ := List.mem_filter.1 hq'
    obtain ⟨k, x, _, e, _⟩ := h.pend q h1
    rw [e] at h2
    simp [secP] at h2
  · try dsimp only
    rw [hM k hk]
    exact List.mem_singleton_self _
  · try dsimp only
    rw [hM k hk]
    rfl
theorem crash_secs (picks : List Int) (P : List (RP × Nat)) (v : List UInt8) (hv : v.length = 12) (hm : ∀ k, k < 12 → v.getD k 0 ∈ M k) (hp : ∀ q ∈ P, ∃ k x, k < 12 ∧ q.1 = secP nm k x ∧ x ∈ M k) :
    ∃ v', P.foldl (crashStep nm picks) (secs v, true) = (secs v', true) ∧ v'.length = 12 ∧ ∀ k, k < 12 → v'.getD k 0 ∈ M k := by
  induction P generalizing v with
  | nil => exact ⟨v, rfl, hv, hm⟩
  | cons q P ih =>
    rw [List.foldl_cons]
    obtain ⟨k, x, hk, e, hx⟩ := hp q List.mem_cons_self
    have hp' : ∀ q ∈ P, ∃ k x, k < 12 ∧ q.1 = secP nm k x ∧ x ∈ M k := fun y hy => hp y (List.mem_cons_of_mem _ hy)
    by_cases hkept : keptB picks q.2 = false
    · have e1 : crashStep nm picks (secs v, true) q = (secs v, true) := by unfold crashStep; rw [if_pos (.inr hkept)]
      rw [e1]
      exact ih v hv hm hp'
    · have e1 : crashStep nm picks (secs v, true) q = (secs (v.set k x), true) := by
        unfold crashStep
        rw [if_neg (by rw [e]; simp [secP]; simpa using hkept), e]
        simp only [secP, Bool.false_eq_true, if_false]
        rw [secs_set v k x (by omega)]
      rw [e1]
      refine ih (v.set k x) (by rw [List.length_set]; exact hv) (fun j hj => ?_) hp'
      rw [getD_set _ _ _ _ (by omega)]
      split
      · rename_i e2
        rw [e2]
        exact hx
      · exact hm j hj
theorem SecS.crash (h : SecS s nm M sv nv i) (hn : named nm = true) (hi : i ≤ 100) (picks : List Int) :
    ∃ v', v'.length = 12 ∧ (∀ k, k < 12 → v'.getD k 0 ∈ M k) ∧ Well (s.crash picks) 2000 ∧ (s.crash picks).read nm 0 768 = (secs v', 0) ∧ (s.crash picks).size nm = 768 := by
  obtain ⟨v', h1, h2, h3⟩ := crash_secs (nm := nm) (M := M) picks (s.pend.zipIdx.take s.pend.length) sv h.sl h.safe fun q hq => h.pend q.1 (List.fst_mem_of_mem_zipIdx (List.mem_of_mem_take hq))
  have hf : (s.crash picks).files = [⟨nm, secs v', secs v', true⟩] := by
    show s.files.filterMap (crashFile picks s.pend) = _
    rw [h.files]
    have e : crashFile picks s.pend ⟨nm, secs nv, secs sv, true⟩ = some ⟨nm, secs v', secs v', true⟩ := by
      unfold crashFile crashTo
      simp only [h1, if_true]
    rw [List.filterMap_cons, e]
    rfl
  have hfd : (s.crash picks).find nm = some 0 := by simp [RD.find, RD.names, hf, pos]
  have hhad : (s.crash picks).had nm = 768 := by
    unfold RD.had
    rw [hfd, hf]
    simp [secs_length, h2]
  have hw := h.well hn hi
  refine ⟨v', h2, h3, ⟨hw.ok.crash _, hw.nice.crash _, hw.small⟩, ?_, ?_⟩
  · unfold RD.read
    rw [hn, if_neg (by simp)]
    have hd : (s.crash picks).down = false := rfl
    rw [hd, if_neg (by simp), hfd, hhad]
    simp only
    rw [if_neg (by omega), hf]
    simp only [List.getElem?_cons_zero, Option.map_some, Option.getD_some, Int.toNat_zero, List.drop_zero]
    rw [List.take_of_length_le (by rw [secs_length, h2]; decide)]
  · unfold RD.size
    have hd : (s.crash picks).down = false := rfl
    rw [hd, if_neg (by simp [hfd]), hhad]
    rfl
theorem secs_load (nm : ByteArray) (hn : named nm = true) : ((RD.new 100000).load nm (List.replicate 768 0)).2 = 0 ∧ SecS ((RD.new 100000).load nm (List.replicate 768 0)).1 nm (fun _ => [0]) (List.replicate 12 0) (List.replicate 12 0) 0 := by
  have hf : (RD.new 100000).fits nm (List.replicate 768 (0 : UInt8)).length = 0 := by
    unfold RD.fits
    rw [if_neg (by simp [RD.new]), if_neg]
    simp only [RD.had, RD.find, RD.names, RD.new, RD.sum, pos, List.map_nil, List.sum_nil, List.length_replicate]
    omega
  have e : (RD.new 100000).load nm (List.replicate 768 0) = (⟨100000, 0, 0, false, false, [⟨nm, List.replicate 768 0, List.replicate 768 0, true⟩], []⟩, 0) := by
    unfold RD.load
    rw [hn, if_neg (by simp), if_neg (by rw [hf]; simp)]
    simp only [RD.settled, RD.made, RD.find, RD.names, RD.new, RD.at_, RD.setF, pos, List.map_nil, List.filter_nil, lessN, putAt, List.take_nil, List.drop_nil, List.nil_append, List.append_nil, List.getElem?_cons_zero, List.set_cons_zero]
  rw [e]
  have e2 : secs (List.replicate 12 0) = List.replicate 768 0 := secs_rep 12 0
  refine ⟨rfl, ?_, rfl, rfl, rfl, rfl, ⟨Int.le_refl _, Int.le_refl _⟩, Nat.zero_le _, fun q hq => (by cases hq), by simp, by simp, fun k hk => ?_, fun k hk => ?_⟩
  · rw [e2]
  · rw [List.getD_eq_getElem?_getD, List.getElem?_replicate, if_pos hk]
    exact List.mem_singleton_self _
  · rw [List.getD_eq_getElem?_getD, List.getElem?_replicate, if_pos hk]
    rfl
end
end Go.Proofs.Ytoihkanneiknkaa
