/- The disk of the document as plain lists: files by name, pieces that wait, what each call makes of them. The abstract disk stays within bounds: each call adds at most 400 to a bound on all its numbers. The abstract disk's files stand in the order of their names, and their names are names. Conditions: those that each theorem names. -/
import Derived.OrdersHeld
namespace Go.Proofs.Ytoihkanneiknkaa

structure RF where
  name : ByteArray
  now : List UInt8
  safe : List UInt8
  sure : Bool
structure RP where
  name : ByteArray
  at' : Nat
  b : List UInt8
  cut : Bool
structure RD where
  room : Int
  changes : Int
  left : Int
  armed : Bool
  down : Bool
  files : List RF
  pend : List RP

/-- The first place of a name. -/
def pos (nm : ByteArray) : List ByteArray → Option Nat
  | [] => none
  | x :: l => if x = nm then some 0 else (pos nm l).map (· + 1)
theorem pos_none {nm : ByteArray} {l : List ByteArray} : pos nm l = none ↔ nm ∉ l := by
  induction l with
  | nil => simp [pos]
  | cons x l ih =>
    rw [pos]
    by_cases h : x = nm
    · simp [h]
    · rw [if_neg h]
      simp only [Option.map_eq_none_iff, ih, List.mem_cons, not_or]
      exact ⟨fun h1 => ⟨fun e => h e.symm, h1⟩, fun h1 => h1.2⟩
theorem pos_some {nm : ByteArray} {l : List ByteArray} {k : Nat} : pos nm l = some k ↔ ∃ h : k < l.length, l[k] = nm ∧ ∀ j (hj : j < k), l[j]'(by omega) ≠ nm := by
  induction l generalizing k with
  | nil => simp [pos]
  | cons x l ih =>
    rw [pos]
    by_cases h : x = nm
    · rw [if_pos h]
      constructor
      · intro e
        injection e with e
        subst e
        exact ⟨by simp, by simpa using h, fun j hj => by omega⟩
      · rintro ⟨h1, h2, h3⟩
        rcases Nat.eq_zero_or_pos k with h0 | h0
        · rw [h0]
        · exact absurd (by simpa using h) (h3 0 h0)
    · rw [if_neg h]
      cases k with
      | zero =>
        constructor
        · intro e
          obtain ⟨a, _, ha⟩ := Option.map_eq_some_iff.1 e
          omega
        · rintro ⟨h1, h2, h3⟩
          exact absurd (by simpa using h2) h
      | succ k =>
        constructor
        · intro e
          obtain ⟨a, ha, hak⟩ := Option.map_eq_some_iff.1 e
          obtain rfl : a = k := by omega
          obtain ⟨h1, h2, h3⟩ := ih.1 ha
          refine ⟨by simpa using h1, by simpa using h2, fun j hj => ?_⟩
          cases j with
          | zero => simpa using h
          | succ j => simpa using h3 j (by omega)
        · rintro ⟨h1, h2, h3⟩
          refine Option.map_eq_some_iff.2 ⟨k, ih.2 ⟨by simpa using h1, by simpa using h2, fun j hj => ?_⟩, rfl⟩
          simpa using h3 (j + 1) (by omega)
/-- .. as a number; -1: there is none. -/
def posI (nm : ByteArray) (l : List ByteArray) : Int := match pos nm l with
  | some k => (k : Int)
  | none => -1

def named (s : ByteArray) : Bool := decide (1 ≤ s.size) && decide (s.size ≤ 16) && s.data.toList.all fun c => decide (97 ≤ c.toNat) && decide (c.toNat ≤ 122)

def RD.names (d : RD) : List ByteArray := d.files.map (·.name)
def RD.find (d : RD) (nm : ByteArray) : Option Nat := pos nm d.names
def RD.sum (d : RD) : Nat := (d.files.map (·.now.length)).sum
def RD.had (d : RD) (nm : ByteArray) : Nat := match d.find nm with
  | some i => (d.files[i]?.map (·.now.length)).getD 0
  | none => 0
def RD.fits (d : RD) (nm : ByteArray) (size : Nat) : Nat :=
  if d.find nm = none ∧ d.files.length = 16 then 11 else if d.had nm < size ∧ d.room < (d.sum : Int) - d.had nm + size then 7 else 0
def RD.stops (d : RD) : Bool := d.armed && decide (d.left = 0)
/-- A change that is made. -/
def RD.ticked (d : RD) : RD := { d with left := if d.armed then d.left - 1 else d.left, changes := d.changes + 1 }
def RD.off (d : RD) : RD := { d with down := true }
/-- One element put in. -/
def putAt {α : Type} (l : List α) (k : Nat) (x : α) : List α := l.take k ++ [x] ++ l.drop k
/-- How many names at the beginning are less. -/
def lessN (nm : ByteArray) : List ByteArray → Nat
  | [] => 0
  | x :: l => if x.data.toList < nm.data.toList then lessN nm l + 1 else 0
def RD.made (d : RD) (nm : ByteArray) : RD := match d.find nm with
  | some _ => d
  | none => { d with files := putAt d.files (lessN nm d.names) ⟨nm, [], [], false⟩ }
def RD.at_ (d : RD) (nm : ByteArray) : Nat := match d.find nm with
  | some k => k
  | none => lessN nm d.names
def RD.settled (d : RD) (nm : ByteArray) : RD := { d with pend := d.pend.filter fun p => decide (p.name ≠ nm) }
/-- Bytes with others in them from a place on. -/
def layB (into : List UInt8) (at' : Nat) (b : List UInt8) : List UInt8 := (into ++ List.replicate (at' + b.length - into.length) 0).take at' ++ b ++ into.drop (at' + b.length)
theorem layB_length (into : List UInt8) (at' : Nat) (b : List UInt8) : (layB into at' b).length = max into.length (at' + b.length) := by
  unfold layB
  simp only [List.length_append, List.length_take, List.length_drop, List.length_replicate]
  omega
def RD.setF (d : RD) (k : Nat) (f : RF → RF) : RD := { d with files := match d.files[k]? with
  | some x => d.files.set k (f x)
  | none => d.files }
def pstep (nm : ByteArray) (at' : Nat) (b : List UInt8) (s : Nat × List RP) (k : Nat) : Nat × List RP :=
  if k = b.length ∨ (at' + k) % 64 = 0 then (k, s.2 ++ [⟨nm, at' + s.1, (b.drop s.1).take (k - s.1), false⟩]) else s
/-- The pieces of a write up to its k-th byte. -/
def piecesTo (nm : ByteArray) (at' : Nat) (b : List UInt8) : Nat → Nat × List RP
  | 0 => (0, [])
  | k + 1 => pstep nm at' b (piecesTo nm at' b k) (k + 1)
def pieces (nm : ByteArray) (at' : Nat) (b : List UInt8) : List RP := (piecesTo nm at' b b.length).2
theorem piecesTo_le (nm : ByteArray) (at' : Nat) (b : List UInt8) (k : Nat) : (piecesTo nm at' b k).1 ≤ k ∧ (piecesTo nm at' b k).2.length ≤ k := by
  induction k with
  | zero => exact ⟨Nat.le_refl _, Nat.le_refl _⟩
  | succ k ih =>
    rw [piecesTo, pstep]
    split
    · refine ⟨Nat.le_refl _, ?_⟩
      simp only [List.length_append, List.length_cons, List.length_nil]
      omega
    · exact ⟨by omega, by omega⟩

def RD.load (d : RD) (nm : ByteArray) (b : List UInt8) : RD × Nat :=
  if named nm = false then (d, 1) else if d.fits nm b.length ≠ 0 then (d, d.fits nm b.length) else
  (((d.settled nm).made nm).setF (d.at_ nm) fun _ => ⟨nm, b, b, true⟩, 0)
def RD.write (d : RD) (nm : ByteArray) (at' : Int) (b : List UInt8) : RD × Nat :=
  if named nm = false then (d, 1) else if d.down = true then (d, 8) else if at' < 0 ∨ (d.had nm : Int) < at' then (d, 2) else if b = [] then (d, 0) else
  if d.fits nm (max (d.had nm) (at'.toNat + b.length)) ≠ 0 then (d, d.fits nm (max (d.had nm) (at'.toNat + b.length))) else
  if d.stops = true then (d.off, 8) else
  let e := (d.ticked.made nm).setF (d.at_ nm) fun f => { f with now := layB f.now at'.toNat b }
  ({ e with pend := e.pend ++ pieces nm at'.toNat b }, 0)
def RD.cut (d : RD) (nm : ByteArray) (n : Int) : RD × Nat :=
  if named nm = false then (d, 1) else if d.down = true then (d, 8) else match d.find nm with
  | none => (d, 6)
  | some i => if n < 0 ∨ (d.had nm : Int) < n then (d, 2) else if d.stops = true then (d.off, 8) else
    let e := d.ticked.setF i fun f => { f with now := f.now.take n.toNat }
    ({ e with pend := e.pend ++ [⟨nm, n.toNat, [], true⟩] }, 0)
def RD.sync (d : RD) (nm : ByteArray) : RD × Nat :=
  if named nm = false then (d, 1) else if d.down = true then (d, 8) else match d.find nm with
  | none => (d, 6)
  | some i => if d.stops = true then (d.off, 8) else ((d.ticked.setF i fun f => { f with safe := f.now, sure := true }).settled nm, 0)
def RD.read (d : RD) (nm : ByteArray) (at' n : Int) : List UInt8 × Nat :=
  if named nm = false then ([], 1) else if d.down = true then ([], 8) else match d.find nm with
  | none => ([], 6)
  | some i => if at' < 0 ∨ n < 0 ∨ (d.had nm : Int) < at' ∨ (d.had nm : Int) - at' < n then ([], 2) else ((((d.files[i]?.map (·.now)).getD []).drop at'.toNat).take n.toNat, 0)
def RD.free (d : RD) : Int := max 0 (d.room - d.sum)
def RD.arm (d : RD) (n : Int) : RD × Nat := if n < 0 then (d, 1) else ({ d with armed := true, left := n }, 0)
/-- Is the i-th piece kept? -/
def keptB (picks : List Int) (i : Nat) : Bool := match picks[i % picks.length]? with
  | some x => decide (x % 2 = 1)
  | none => false
/-- A piece done on a file. -/
def crashStep (nm : ByteArray) (picks : List Int) (s : List UInt8 × Bool) (p : RP × Nat) : List UInt8 × Bool :=
  if p.1.name ≠ nm ∨ keptB picks p.2 = false then s else if p.1.cut then (s.1.take p.1.at', s.2) else (layB s.1 p.1.at' p.1.b, true)
def crashTo (f : RF) (picks : List Int) (pend : List RP) (k : Nat) : List UInt8 × Bool := (pend.zipIdx.take k).foldl (crashStep f.name picks) (f.safe, f.sure)
def crashFile (picks : List Int) (pend : List RP) (f : RF) : Option RF :=
  let s := crashTo f picks pend pend.length
  if s.2 then some ⟨f.name, s.1, s.1, true⟩ else none
def RD.crash (d : RD) (picks : List Int) : RD := { d with files := d.files.filterMap (crashFile picks d.pend), pend := [], down := false, armed := false }
end Go.Proofs.Ytoihkanneiknkaa

namespace Go.Proofs.Ytoihkanneiknkaa

/-- All numbers of a disk within a bound. -/
structure RD.Ok (s : RD) (m : Nat) : Prop where
  room : 0 ≤ s.room ∧ s.room ≤ 1152921504606846976
  chg : 0 ≤ s.changes ∧ s.changes ≤ m
  left : 0 ≤ s.left ∧ s.left ≤ 9223372036854775807
  files : s.files.length ≤ 16
  now : ∀ f ∈ s.files, f.now.length ≤ m ∧ f.safe.length ≤ m
  pend : s.pend.length ≤ m
  ends : ∀ q ∈ s.pend, q.at' + q.b.length ≤ m
section
variable {s : RD} {m m' : Nat}
theorem RD.Ok.more (h : s.Ok m) (hm : m ≤ m') : s.Ok m' := ⟨h.room, ⟨h.chg.1, by have := h.chg.2; omega⟩, h.left, h.files, fun f hf => ⟨by have := (h.now f hf).1; omega, by have := (h.now f hf).2; omega⟩, by have := h.pend; omega, fun q hq => by have := h.ends q hq; omega⟩
theorem RD.Ok.had (h : s.Ok m) (nm : ByteArray) : s.had nm ≤ m := by
  unfold RD.had
  split
  · rename_i i _
    rcases hi : s.files[i]? with _ | f
    · simp
    · simpa using (h.now f (List.mem_of_getElem? hi)).1
  · omega
theorem mem_putAt {α : Type} {l : List α} {k : Nat} {x y : α} (h : y ∈ putAt l k x) : y ∈ l ∨ y = x := by
  simp only [putAt, List.append_assoc, List.mem_append, List.mem_singleton] at h
  rcases h with h | h | h
  · exact .inl (List.mem_of_mem_take h)
  · exact .inr h
  · exact .inl (List.mem_of_mem_drop h)
theorem length_putAt {α : Type} (l : List α) (k : Nat) (x : α) : (putAt l k x).length = l.length + 1 := by
  simp only [putAt, List.length_append, List.length_take, List.length_drop, List.length_cons, List.length_nil]
  omega
theorem RD.Ok.made (h : s.Ok m) (nm : ByteArray) (hf : s.find nm = none → s.files.length < 16) : (s.made nm).Ok m := by
  unfold RD.made
  split
  · exact h
  · rename_i hn
    have := hf hn
    exact ⟨h.room, h.chg, h.left, by rw [length_putAt]; omega, fun f hf => by
      rcases mem_putAt hf with h1 | rfl
      · exact h.now f h1
      · exact ⟨Nat.zero_le _, Nat.zero_le _⟩, h.pend, h.ends⟩
theorem RD.Ok.setF (h : s.Ok m) (hm : m ≤ m') (k : Nat) (g : RF → RF) (hg : ∀ f, s.files[k]? = some f → (g f).now.length ≤ m' ∧ (g f).safe.length ≤ m') : (s.setF k g).Ok m' := by
  have h' := h.more hm
  refine ⟨h'.room, h'.chg, h'.left, ?_, fun f hf => ?_, h'.pend, h'.ends⟩
  · unfold RD.setF
    split
    · simpa using h.files
    · exact h.files
  · unfold RD.setF at hf
    split at hf
    · rename_i x hx
      rcases List.mem_or_eq_of_mem_set hf with h1 | rfl
      · exact h'.now f h1
      · exact hg x hx
    · exact h'.now f hf
theorem RD.Ok.settled (h : s.Ok m) (nm : ByteArray) : (s.settled nm).Ok m := ⟨h.room, h.chg, h.left, h.files, h.now, Nat.le_trans (List.length_filter_le _ _) h.pend, fun q hq => h.ends q (List.mem_filter.1 hq).1⟩
theorem RD.Ok.off (h : s.Ok m) : s.off.Ok m := ⟨h.room, h.chg, h.left, h.files, h.now, h.pend, h.ends⟩
theorem RD.Ok.ticked (h : s.Ok m) (hs : s.stops = false) : s.ticked.Ok (m + 1) := by
  have h' := h.more (Nat.le_succ m)
  refine ⟨h'.room, ?_, ?_, h'.files, h'.now, h'.pend, h'.ends⟩
  · have := h.chg
    show 0 ≤ s.changes + 1 ∧ s.changes + 1 ≤ ((m + 1 : Nat) : Int)
    omega
  · have := h.left
    show 0 ≤ (if s.armed then s.left - 1 else s.left) ∧ (if s.armed then s.left - 1 else s.left) ≤ 9223372036854775807
    unfold RD.stops at hs
    split
    · rename_i ha
      rw [ha] at hs
      simp at hs
      omega
    · exact this
theorem piecesTo_ends (nm : ByteArray) (at' : Nat) (b : List UInt8) (k : Nat) : ∀ q ∈ (piecesTo nm at' b k).2, q.at' + q.b.length ≤ at' + k := by
  induction k with
  | zero => simp [piecesTo]
  | succ k ih =>
    intro q hq
    rw [piecesTo, pstep] at hq
    split at hq
    · rcases List.mem_append.1 hq with h1 | h1
      · have := ih q h1
        omega
      · simp only [List.mem_singleton] at h1
        subst h1
        have := (piecesTo_le nm at' b k).1
        simp only [List.length_take, List.length_drop]
        omega
    · have := ih q hq
      omega
theorem fits_zero {nm : ByteArray} {n : Nat} (h : ¬ s.fits nm n ≠ 0) (hn : s.find nm = none) (hl : s.files.length ≤ 16) : s.files.length < 16 := by
  have h0 : s.fits nm n = 0 := by simpa using h
  unfold RD.fits at h0
  by_cases h1 : s.find nm = none ∧ s.files.length = 16
  · rw [if_pos h1] at h0
    omega
  · have : s.files.length ≠ 16 := fun e => h1 ⟨hn, e⟩
    omega
theorem RD.Ok.load (h : s.Ok m) (nm : ByteArray) (b : List UInt8) (hb : b.length ≤ 400) : (s.load nm b).1.Ok (m + 400) := by
  unfold RD.load
  split
  · exact h.more (by omega)
  · split
    · exact h.more (by omega)
    · rename_i hf
      refine ((h.settled nm).made nm fun hn => fits_zero hf hn h.files).setF (by omega) _ _ fun f _ => ⟨by simp only; omega, by simp only; omega⟩
theorem RD.Ok.write (h : s.Ok m) (nm : ByteArray) (at' : Int) (b : List UInt8) (hb : b.length ≤ 399) : (s.write nm at' b).1.Ok (m + 400) := by
  unfold RD.write
  split
  · exact h.more (by omega)
  · split
    · exact h.more (by omega)
    · split
      · exact h.more (by omega)
      · rename_i hat
        split
        · exact h.more (by omega)
        · split
          · exact h.more (by omega)
          · rename_i hfit
            split
            · exact h.off.more (by omega)
            · rename_i hst
              have hst' : s.stops = false := by simpa using hst
              have hhad := h.had nm
              have hat' : at'.toNat ≤ s.had nm := by omega
              have ht := h.ticked hst'
              have hm := ht.made nm fun hn => fits_zero hfit hn h.files
              have hs := hm.setF (m' := m + 400) (by omega) (s.at_ nm) (fun f => { f with now := layB f.now at'.toNat b }) fun f hf => by
                have h1 := (hm.now f (List.mem_of_getElem? hf)).2
                refine ⟨?_, by simp only; omega⟩
                simp only [layB_length]
                have h2 := (hm.now f (List.mem_of_getElem? hf)).1
                omega
              refine ⟨hs.room, hs.chg, hs.left, hs.files, hs.now, ?_, fun q hq => ?_⟩
              · have h2 : ((s.ticked.made nm).setF (s.at_ nm) fun f => { f with now := layB f.now at'.toNat b }).pend = s.pend := by
                  unfold RD.setF RD.made
                  split <;> rfl
                have h3 := (piecesTo_le nm at'.toNat b b.length).2
                simp only [List.length_append, h2]
                have := h.pend
                unfold pieces
                omega
              · rcases List.mem_append.1 hq with h1 | h1
                · exact hs.ends q h1
                · have := piecesTo_ends nm at'.toNat b b.length q h1
                  omega
theorem RD.Ok.cut (h : s.Ok m) (nm : ByteArray) (n : Int) : (s.cut nm n).1.Ok (m + 400) := by
  unfold RD.cut
  split
  · exact h.more (by omega)
  · split
    · exact h.more (by omega)
    · split
      · exact h.more (by omega)
      · split
        · exact h.more (by omega)
        · rename_i hn
          split
          · exact h.off.more (by omega)
          · rename_i i _ hst
            have hst' : s.stops = false := by simpa using hst
            have ht := h.ticked hst'
            have hhad := h.had nm
            have hs := ht.setF (m' := m + 400) (by omega) i (fun f => { f with now := f.now.take n.toNat }) fun f hf => by
              have h1 := ht.now f (List.mem_of_getElem? hf)
              simp only [List.length_take]
              omega
            refine ⟨hs.room, hs.chg, hs.left, hs.files, hs.now, ?_, fun q hq => ?_⟩
            · have := h.pend
              simp only [List.length_append, List.length_cons, List.length_nil]
              show s.pend.length + 1 ≤ _
              omega
            · rcases List.mem_append.1 hq with h1 | h1
              · exact hs.ends q h1
              · simp only [List.mem_singleton] at h1
                subst h1
                simp only [List.length_nil]
                omega
theorem RD.Ok.sync (h : s.Ok m) (nm : ByteArray) : (s.sync nm).1.Ok (m + 400) := by
  unfold RD.sync
  split
  · exact h.more (by omega)
  · split
    · exact h.more (by omega)
    · split
      · exact h.more (by omega)
      · split
        · exact h.off.more (by omega)
        · rename_i i _ hst
          have hst' : s.stops = false := by simpa using hst
          have ht := h.ticked hst'
          exact (ht.setF (m' := m + 400) (by omega) i (fun f => { f with safe := f.now, sure := true }) fun f hf => by
            have h1 := ht.now f (List.mem_of_getElem? hf)
            simp only
            omega).settled nm
theorem RD.Ok.arm (h : s.Ok m) (n : Int) (hn : n ≤ 9223372036854775807) : (s.arm n).1.Ok m := by
  unfold RD.arm
  split
  · exact h
  · exact ⟨h.room, h.chg, ⟨by show 0 ≤ n; omega, hn⟩, h.files, h.now, h.pend, h.ends⟩
theorem crashTo_le (f : RF) (picks : List Int) (pend : List RP) (hf : f.safe.length ≤ m) (hp : ∀ q ∈ pend, q.at' + q.b.length ≤ m) (k : Nat) : (crashTo f picks pend k).1.length ≤ m := by
  unfold crashTo
  have : ∀ (l : List (RP × Nat)) (t : List UInt8 × Bool), (∀ q ∈ l, q.1.at' + q.1.b.length ≤ m) → t.1.length ≤ m → (l.foldl (crashStep f.name picks) t).1.length ≤ m := by
    intro l
    induction l with
    | nil => intro t _ h; exact h
    | cons q l ih =>
      intro t hq ht
      refine ih _ (fun r hr => hq r (List.mem_cons_of_mem _ hr)) ?_
      have h1 := hq q List.mem_cons_self
      unfold crashStep
      split
      · exact ht
      · split
        · simp only [List.length_take]; omega
        · simp only [layB_length]; omega
  refine this _ _ (fun q hq => ?_) hf
  have h1 := List.mem_of_mem_take hq
  obtain ⟨q1, q2⟩ := q
  exact hp _ (List.fst_mem_of_mem_zipIdx h1)
theorem RD.Ok.crash (h : s.Ok m) (picks : List Int) : (s.crash picks).Ok m := by
  refine ⟨h.room, h.chg, h.left, Nat.le_trans (List.length_filterMap_le _ _) h.files, fun f hf => ?_, Nat.zero_le _, fun q hq => by simp [RD.crash] at hq⟩
  obtain ⟨g, hg, he⟩ := List.mem_filterMap.1 hf
  unfold crashFile at he
  simp only at he
  split at he
  · injection he with he
    subst he
    have := crashTo_le g picks s.pend (h.now g hg).2 h.ends s.pend.length
    exact ⟨this, this⟩
  · cases he
end
end Go.Proofs.Ytoihkanneiknkaa

namespace Go.Proofs.Ytoihkanneiknkaa

def bLt (a b : ByteArray) : Prop := a.data.toList < b.data.toList
theorem bLt_trans {a b c : ByteArray} (h : bLt a b) (h' : bLt b c) : bLt a c := List.lt_trans h h'
theorem bLt_irrefl (a : ByteArray) : ¬ bLt a a := List.lt_irrefl _
theorem bLt_of {a b : ByteArray} (h : ¬ bLt a b) (hn : a ≠ b) : bLt b a := by
  rcases Classical.em (bLt b a) with h1 | h1
  · exact h1
  · exfalso
    have h2 : a.data.toList = b.data.toList := List.le_antisymm (List.not_lt.1 h1) (List.not_lt.1 h)
    apply hn
    cases a
    cases b
    simpa using h2
structure RD.Nice (s : RD) : Prop where
  named : ∀ f ∈ s.files, named f.name = true
  sorted : s.names.Pairwise bLt
section
variable {s : RD}
theorem nice_new (room : Int) (c l : Int) (a d : Bool) (q : List RP) : RD.Nice ⟨room, c, l, a, d, [], q⟩ := ⟨fun f hf => by simp at hf, List.Pairwise.nil⟩
theorem nice_find (h : s.Nice) (k : Nat) (hk : k < s.files.length) : s.find s.files[k].name = some k := by
  have hn : k < s.names.length := by simpa [RD.names] using hk
  have e : s.names[k] = s.files[k].name := by simp [RD.names]
  refine pos_some.2 ⟨hn, e, fun j hj => fun he => ?_⟩
  have h1 := List.pairwise_iff_getElem.1 h.sorted j k (by omega) hn hj
  rw [he, e] at h1
  exact bLt_irrefl _ h1
theorem nice_had (h : s.Nice) (k : Nat) (hk : k < s.files.length) : s.had s.files[k].name = s.files[k].now.length := by
  unfold RD.had
  rw [nice_find h k hk]
  simp [List.getElem?_eq_getElem hk]
theorem names_files {s t : RD} (h : s.files = t.files) : s.names = t.names := by unfold RD.names; rw [h]
theorem nice_files {s t : RD} (h : s.Nice) (e : t.files = s.files) : t.Nice := ⟨by rw [e]; exact h.named, by rw [names_files e]; exact h.sorted⟩
theorem lessN_take (nm : ByteArray) (l : List ByteArray) : ∀ x ∈ l.take (lessN nm l), bLt x nm := by
  induction l with
  | nil => simp
  | cons y l ih =>
    rw [lessN]
    split
    · rename_i hy
      intro x hx
      simp only [List.take_succ_cons, List.mem_cons] at hx
      rcases hx with rfl | hx
      · exact hy
      · exact ih x hx
    · simp
theorem lessN_drop_gt (nm : ByteArray) (l : List ByteArray) (hs : l.Pairwise bLt) (hn : nm ∉ l) : ∀ x ∈ l.drop (lessN nm l), bLt nm x := by
  induction l with
  | nil => simp
  | cons y l ih =>
    rw [List.pairwise_cons] at hs
    rw [List.mem_cons, not_or] at hn
    rw [lessN]
    split
    · rename_i hy
      simpa using ih hs.2 hn.2
    · rename_i hy
      have h1 : bLt nm y := bLt_of hy (fun e => hn.1 e.symm)
      intro x hx
      simp only [List.drop_zero, List.mem_cons] at hx
      rcases hx with rfl | hx
      · exact h1
      · exact bLt_trans h1 (hs.1 x hx)
theorem names_putAt (l : List RF) (k : Nat) (f : RF) : (putAt l k f).map (·.name) = putAt (l.map (·.name)) k f.name := by
  simp only [putAt, List.map_append, List.map_take, List.map_drop, List.map_cons, List.map_nil]
theorem RD.Nice.made (h : s.Nice) (nm : ByteArray) (hn : Go.Proofs.Ytoihkanneiknkaa.named nm = true) : (s.made nm).Nice := by
  unfold RD.made
  split
  · exact h
  · rename_i hf
    have hnm := pos_none.1 hf
    refine ⟨fun f hf => ?_, ?_⟩
    · rcases mem_putAt hf with h1 | rfl
      · exact h.named f h1
      · exact hn
    · show ((putAt s.files (lessN nm s.names) ⟨nm, [], [], false⟩).map (·.name)).Pairwise bLt
      rw [names_putAt]
      show (putAt s.names (lessN nm s.names) nm).Pairwise bLt
      have hs := h.sorted
      rw [← List.take_append_drop (lessN nm s.names) s.names, List.pairwise_append] at hs
      obtain ⟨h1, h2, h3⟩ := hs
      have h4 := lessN_take nm s.names
      have h5 := lessN_drop_gt nm s.names h.sorted hnm
      unfold putAt
      rw [List.append_assoc, List.pairwise_append]
      refine ⟨h1, ?_, fun a ha b hb => ?_⟩
      · rw [List.singleton_append, List.pairwise_cons]
        exact ⟨h5, h2⟩
      · rcases List.mem_append.1 hb with hb | hb
        · simp at hb
          subst hb
          exact h4 a ha
        · exact h3 a ha b hb
theorem setF_names (s : RD) (k : Nat) (g : RF → RF) (hg : ∀ f, s.files[k]? = some f → (g f).name = f.name) : (s.setF k g).names = s.names := by
  unfold RD.setF RD.names
  split
  · rename_i x hx
    simp only [List.map_set, hg x hx]
    refine List.ext_getElem (by simp) fun i h1 h2 => ?_
    rw [List.getElem_set]
    split
    · rename_i e
      subst e
      obtain ⟨hk, he⟩ := List.getElem?_eq_some_iff.1 hx
      simp [he]
    · rfl
  · rfl
theorem RD.Nice.setF (h : s.Nice) (k : Nat) (g : RF → RF) (hg : ∀ f, s.files[k]? = some f → (g f).name = f.name) : (s.setF k g).Nice := by
  have hnm := setF_names s k g hg
  refine ⟨fun f hf => ?_, by rw [hnm]; exact h.sorted⟩
  have h1 : f.name ∈ (s.setF k g).names := List.mem_map.2 ⟨f, hf, rfl⟩
  rw [hnm] at h1
  obtain ⟨f', hf', e⟩ := List.mem_map.1 h1
  rw [← e]
  exact h.named f' hf'
theorem made_at (s : RD) (nm : ByteArray) (f : RF) (h : (s.made nm).files[s.at_ nm]? = some f) : f.name = nm := by
  unfold RD.made RD.at_ at h
  rcases hn : s.find nm with _ | k
  · rw [hn] at h
    simp only at h
    have hlen : s.names.length = s.files.length := by simp [RD.names]
    have hl : lessN nm s.names ≤ s.names.length := by
      generalize s.names = l
      induction l with
      | nil => exact Nat.le_refl _
      | cons x l ih =>
        rw [lessN]
        split
        · simp; omega
        · omega
    rw [putAt, List.append_assoc, List.getElem?_append_right (by simp; omega)] at h
    simp only [List.length_take] at h
    rw [show lessN nm s.names - min (lessN nm s.names) s.files.length = 0 by omega] at h
    simp at h
    subst h
    rfl
  · rw [hn] at h
    simp only at h
    obtain ⟨h1, h2, _⟩ := pos_some.1 hn
    obtain ⟨h3, h4⟩ := List.getElem?_eq_some_iff.1 h
    rw [← h2, ← h4]
    simp [RD.names]
theorem RD.Nice.load (h : s.Nice) (nm : ByteArray) (b : List UInt8) : (s.load nm b).1.Nice := by
  unfold RD.load
  split
  · exact h
  · split
    · exact h
    · rename_i hn _
      have hn' : Go.Proofs.Ytoihkanneiknkaa.named nm = true := by simpa using hn
      have h1 := (nice_files h (t := s.settled nm) rfl).made nm hn'
      exact h1.setF _ _ fun f hf => (made_at (s.settled nm) nm f hf).symm
theorem RD.Nice.write (h : s.Nice) (nm : ByteArray) (at' : Int) (b : List UInt8) : (s.write nm at' b).1.Nice := by
  unfold RD.write
  split
  · exact h
  · split
    · exact h
    · split
      · exact h
      · split
        · exact h
        · split
          · exact h
          · split
            · exact nice_files h rfl
            · rename_i hn _ _ _ _ _
              have hn' : Go.Proofs.Ytoihkanneiknkaa.named nm = true := by simpa using hn
              have h1 := (nice_files h (t := s.ticked) rfl).made nm hn'
              exact nice_files (h1.setF (s.at_ nm) (fun f => { f with now := layB f.now at'.toNat b }) fun f _ => rfl) rfl
theorem RD.Nice.cut (h : s.Nice) (nm : ByteArray) (n : Int) : (s.cut nm n).1.Nice := by
  unfold RD.cut
  split
  · exact h
  · split
    · exact h
    · split
      · exact h
      · split
        · exact h
        · split
          · exact nice_files h rfl
          · exact nice_files ((nice_files h (t := s.ticked) rfl).setF _ (fun f => { f with now := f.now.take n.toNat }) fun f _ => rfl) rfl
theorem RD.Nice.sync (h : s.Nice) (nm : ByteArray) : (s.sync nm).1.Nice := by
  unfold RD.sync
  split
  · exact h
  · split
    · exact h
    · split
      · exact h
      · split
        · exact nice_files h rfl
        · exact nice_files ((nice_files h (t := s.ticked) rfl).setF _ (fun f => { f with safe := f.now, sure := true }) fun f _ => rfl) rfl
theorem RD.Nice.arm (h : s.Nice) (n : Int) : (s.arm n).1.Nice := by
  unfold RD.arm
  split
  · exact h
  · exact nice_files h rfl
theorem crashFile_name {picks : List Int} {pend : List RP} {f g : RF} (h : crashFile picks pend f = some g) : g.name = f.name := by
  unfold crashFile at h
  simp only at h
  split at h
  · injection h with h
    subst h
    rfl
  · cases h
theorem RD.Nice.crash (h : s.Nice) (picks : List Int) : (s.crash picks).Nice := by
  refine ⟨fun g hg => ?_, ?_⟩
  · obtain ⟨f, hf, e⟩ := List.mem_filterMap.1 hg
    rw [crashFile_name e]
    exact h.named f hf
  · show ((s.files.filterMap (crashFile picks s.pend)).map (·.name)).Pairwise bLt
    refine List.Pairwise.sublist ?_ h.sorted
    show List.Sublist _ (s.files.map (·.name))
    generalize s.files = l
    induction l with
    | nil => exact List.Sublist.refl _
    | cons f l ih =>
      rcases hc : crashFile picks s.pend f with _ | g
      · rw [List.filterMap_cons_none hc]
        exact List.Sublist.cons _ ih
      · rw [List.filterMap_cons_some hc, List.map_cons, List.map_cons, crashFile_name hc]
        exact List.Sublist.cons_cons _ ih
end
end Go.Proofs.Ytoihkanneiknkaa
