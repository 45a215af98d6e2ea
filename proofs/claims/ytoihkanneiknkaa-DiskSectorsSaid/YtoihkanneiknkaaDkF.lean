/- Plain facts on the abstract disk: behind each call what is seen is what is safe with all that waits, and what waits is of files that are there. The landed disk as one object: its contracts over the abstract disk within bounds. Conditions: those that each theorem names. -/
import Derived.Test.YtoihkanneiknkaaDlP
import Derived.Test.YtoihkanneiknkaaDlQ
import Derived.Test.YtoihkanneiknkaaDkN
import Derived.Test.YtoihkanneiknkaaDkModel
import Derived.Test.YtoihkanneiknkaaDlT
import Derived.Test.YtoihkanneiknkaaDlR
namespace Go.Proofs.Ytoihkanneiknkaa

structure RD.Inv (s : RD) : Prop where
  seen : s.Seen
  there : ∀ q ∈ s.pend, q.name ∈ s.names
section
variable {s t : RD} {nm : ByteArray}
theorem Inv_same (h : s.Inv) (hf : t.files = s.files) (hp : t.pend = s.pend) : t.Inv := ⟨fun f hm => by rw [hf] at hm; rw [hp]; exact h.seen f hm, fun q hq => by
  rw [hp] at hq
  have := h.there q hq
  unfold RD.names at this ⊢
  rw [hf]
  exact this⟩
theorem upN_names' (s : RD) (nm : ByteArray) (g : RF → RF) (hg : ∀ f, f.name = nm → (g f).name = nm) : (s.upN nm g).names = s.names := by
  simp only [RD.names, RD.upN, List.map_map]
  refine List.map_congr_left fun x _ => ?_
  show (if x.name = nm then g x else x).name = x.name
  split
  · rename_i h
    rw [hg x h, h]
  · rfl
theorem made_mem {x : RF} (h : x ∈ (s.made nm).files) : x ∈ s.files ∨ (x = ⟨nm, [], [], false⟩ ∧ nm ∉ s.names) := by
  unfold RD.made at h
  rcases hf : s.find nm with _ | k
  · rw [hf] at h
    exact (mem_putAt h).imp id fun e => ⟨e, pos_none.1 hf⟩
  · rw [hf] at h
    exact .inl h
theorem made_pend (s : RD) (nm : ByteArray) : (s.made nm).pend = s.pend := by unfold RD.made; split <;> rfl
theorem made_names_sub {x : ByteArray} (h : x ∈ s.names) : x ∈ (s.made nm).names := by
  rcases hf : s.find nm with _ | k
  · rw [made_names_new s nm hf]
    unfold putAt
    rw [List.append_assoc, List.mem_append, List.mem_append]
    have : x ∈ s.names.take (lessN nm s.names) ++ s.names.drop (lessN nm s.names) := by rw [List.take_append_drop]; exact h
    rcases List.mem_append.1 this with h1 | h1
    · exact .inl h1
    · exact .inr (.inr h1)
  · have e2 : s.made nm = s := by unfold RD.made; rw [hf]
    rw [e2]; exact h
theorem made_names_self : nm ∈ (s.made nm).names := Classical.byContradiction fun h => by
  have h1 : (s.made nm).find nm = none := pos_none.2 h
  rw [made_find] at h1
  cases h1
/-- A file of a name turns, and pieces of that name come. -/
theorem Inv_up (h : s.Inv) (_hs : s.names.Pairwise bLt) (g : RF → RF) (hgn : ∀ f, f.name = nm → (g f).name = nm) (new : List RP) (hn : ∀ q ∈ new, q.name = nm) (hu : ∀ f ∈ (s.made nm).files, f.name = nm → f.now = onAll (s.pend.filter fun q => decide (q.name = nm)) f.safe → (g f).now = onAll (s.pend.filter (fun q => decide (q.name = nm)) ++ new) (g f).safe) :
    RD.Inv { ((s.made nm).upN nm g) with pend := s.pend ++ new } := by
  refine ⟨fun f hf => ?_, fun q hq => ?_⟩
  · obtain ⟨x, hx, rfl⟩ := List.mem_map.1 hf
    by_cases hxn : x.name = nm
    · rw [if_pos hxn]
      have h1 : x.now = onAll (s.pend.filter fun q => decide (q.name = nm)) x.safe := by
        rcases made_mem hx with h2 | ⟨rfl, h2⟩
        · have := h.seen x h2
          rw [hxn] at this
          exact this
        · have e : s.pend.filter (fun q => decide (q.name = nm)) = [] := List.filter_eq_nil_iff.2 fun q hq => by
            have h3 := h.there q hq
            simp only [decide_eq_true_eq]
            intro e
            exact h2 (e ▸ h3)
          rw [e]
          rfl
      have h3 := hu x hx hxn h1
      rw [h3, hgn x hxn, List.filter_append]
      congr 2
      exact (List.filter_eq_self.2 fun q hq => by simp [hn q hq]).symm
    · rw [if_neg hxn]
      have hx2 : x ∈ s.files := by
        rcases made_mem hx with h2 | ⟨rfl, _⟩
        · exact h2
        · exact absurd rfl hxn
      have h1 := h.seen x hx2
      show x.now = onAll ((s.pend ++ new).filter _) x.safe
      have e : new.filter (fun q => decide (q.name = x.name)) = [] := List.filter_eq_nil_iff.2 fun q hq => by
        simp only [decide_eq_true_eq]
        rw [hn q hq]
        exact fun e => hxn e.symm
      rw [List.filter_append, e, List.append_nil]
      exact h1
  · show q.name ∈ ((s.made nm).upN nm g).names
    rw [upN_names' _ _ _ hgn]
    rcases List.mem_append.1 hq with h1 | h1
    · exact made_names_sub (h.there q h1)
    · rw [hn q h1]
      exact made_names_self
/-- A file of a name is settled. -/
theorem Inv_settle (h : s.Inv) (g : RF → RF) (hgn : ∀ f, f.name = nm → (g f).name = nm) (hu : ∀ f ∈ (s.made nm).files, f.name = nm → (g f).now = (g f).safe) :
    RD.Inv { ((s.made nm).upN nm g) with pend := s.pend.filter fun q => decide (q.name ≠ nm) } := by
  refine ⟨fun f hf => ?_, fun q hq => ?_⟩
  · obtain ⟨x, hx, rfl⟩ := List.mem_map.1 hf
    show _ = onAll ((s.pend.filter fun q => decide (q.name ≠ nm)).filter _) _
    rw [List.filter_filter]
    by_cases hxn : x.name = nm
    · rw [if_pos hxn, hgn x hxn]
      have e : s.pend.filter (fun q => decide (q.name = nm) && decide (q.name ≠ nm)) = [] := List.filter_eq_nil_iff.2 fun q _ => by
        by_cases h1 : q.name = nm <;> simp [h1]
      rw [e]
      exact hu x hx hxn
    · rw [if_neg hxn]
      have hx2 : x ∈ s.files := by
        rcases made_mem hx with h2 | ⟨rfl, _⟩
        · exact h2
        · exact absurd rfl hxn
      have h1 := h.seen x hx2
      have e : s.pend.filter (fun q => decide (q.name = x.name) && decide (q.name ≠ nm)) = s.pend.filter (fun q => decide (q.name = x.name)) := List.filter_congr fun q _ => by
        by_cases h2 : q.name = x.name
        · simp [h2, hxn]
        · simp [h2]
      rw [e]
      exact h1
  · show q.name ∈ ((s.made nm).upN nm g).names
    rw [upN_names' _ _ _ hgn]
    exact made_names_sub (h.there q (List.mem_filter.1 hq).1)
theorem onAll_append (a b : List RP) (l : List UInt8) : onAll (a ++ b) l = onAll b (onAll a l) := by unfold onAll; rw [List.foldl_append]
theorem Inv_new (room : Int) (c l : Int) (a d : Bool) : RD.Inv ⟨room, c, l, a, d, [], []⟩ := ⟨fun f hf => (by cases hf), fun q hq => (by cases hq)⟩
theorem RD.Inv.write (h : s.Inv) (hs : s.names.Pairwise bLt) (at' : Int) (b : List UInt8) : (s.write nm at' b).1.Inv := by
  unfold RD.write
  split
  · exact h
  split
  · exact h
  split
  · exact h
  rename_i hbad
  split
  · exact h
  rename_i hb
  split
  · exact h
  split
  · exact Inv_same h rfl rfl
  obtain ⟨a, rfl⟩ : ∃ a : Nat, at' = a := ⟨at'.toNat, by omega⟩
  simp only [Int.toNat_natCast]
  have ha : a ≤ s.had nm := by omega
  have h1 := Inv_up (s := s.ticked) (nm := nm) (Inv_same h rfl rfl) hs (fun f => { f with now := layB f.now a b }) (fun f hf => hf) (pieces nm a b) (fun q hq => ((pieces_on nm a b (List.replicate a 0) (by simp)).1 q hq).1) fun f hf hfn hse => by
    rw [onAll_append, ← hse]
    have h2 := had_mem (made_sorted s.ticked nm hs) hf
    rw [hfn, had_made] at h2
    have h3 : s.ticked.had nm = s.had nm := rfl
    exact ((pieces_on nm a b f.now (by omega)).2).symm
  have e := upN_made_setF s.ticked nm (fun f => { f with now := layB f.now a b }) hs
  rw [e] at h1
  have e2 : ((s.ticked.made nm).setF (s.at_ nm) fun f => { f with now := layB f.now a b }).pend = s.pend := made_pend s.ticked nm
  show RD.Inv { ((s.ticked.made nm).setF (s.at_ nm) fun f => { f with now := layB f.now a b }) with pend := ((s.ticked.made nm).setF (s.at_ nm) fun f => { f with now := layB f.now a b }).pend ++ pieces nm a b }
  rw [e2]
  exact h1
theorem made_self {k : Nat} (h : s.find nm = some k) : s.made nm = s := by unfold RD.made; rw [h]
theorem RD.Inv.cut (h : s.Inv) (hs : s.names.Pairwise bLt) (n : Int) : (s.cut nm n).1.Inv := by
  unfold RD.cut
  split
  · exact h
  split
  · exact h
  split
  · exact h
  rename_i i hi
  split
  · exact h
  split
  · exact Inv_same h rfl rfl
  have h1 := Inv_up (s := s.ticked) (nm := nm) (Inv_same h rfl rfl) hs (fun f => { f with now := f.now.take n.toNat }) (fun f hf => hf) [⟨nm, n.toNat, [], true⟩] (fun q hq => by simp at hq; rw [hq]) fun f hf hfn hse => by
    rw [onAll_append, ← hse]
    rfl
  have e1 : s.ticked.made nm = s.ticked := made_self (k := i) hi
  rw [e1, upN_setF s.ticked nm _ hs (k := i) hi] at h1
  exact h1
theorem RD.Inv.sync (h : s.Inv) (hs : s.names.Pairwise bLt) : (s.sync nm).1.Inv := by
  unfold RD.sync
  split
  · exact h
  split
  · exact h
  split
  · exact h
  rename_i i hi
  split
  · exact Inv_same h rfl rfl
  have h1 := Inv_settle (s := s.ticked) (nm := nm) (Inv_same h rfl rfl) (fun f => { f with safe := f.now, sure := true }) (fun f hf => hf) fun f _ _ => rfl
  have e1 : s.ticked.made nm = s.ticked := made_self (k := i) hi
  rw [e1, upN_setF s.ticked nm _ hs (k := i) hi] at h1
  exact h1
theorem RD.Inv.load (h : s.Inv) (hs : s.names.Pairwise bLt) (b : List UInt8) : (s.load nm b).1.Inv := by
  unfold RD.load
  split
  · exact h
  split
  · exact h
  have h1 := Inv_settle (nm := nm) h (fun _ => ⟨nm, b, b, true⟩) (fun f hf => rfl) fun f _ _ => rfl
  have e := upN_made_setF (s.settled nm) nm (fun _ => ⟨nm, b, b, true⟩) hs
  have e3 : ((s.settled nm).made nm).upN nm (fun _ => ⟨nm, b, b, true⟩) = { ((s.made nm).upN nm fun _ => ⟨nm, b, b, true⟩) with pend := s.pend.filter fun q => decide (q.name ≠ nm) } := by
    unfold RD.made
    have e4 : (s.settled nm).find nm = s.find nm := rfl
    rw [e4]
    rcases s.find nm with _ | k <;> rfl
  rw [← e3, e] at h1
  exact h1
theorem RD.Inv.arm (h : s.Inv) (n : Int) : (s.arm n).1.Inv := by
  unfold RD.arm
  split
  · exact h
  · exact Inv_same h rfl rfl
theorem RD.Inv.crash (picks : List Int) : (s.crash picks).Inv := by
  refine ⟨fun f hf => ?_, fun q hq => (by cases hq)⟩
  have hf2 : f ∈ s.files.filterMap (crashFile picks s.pend) := hf
  obtain ⟨x, _, hx⟩ := List.mem_filterMap.1 hf2
  unfold crashFile at hx
  simp only at hx
  split at hx
  · injection hx with hx
    rw [← hx]
    rfl
  · cases hx
end
end Go.Proofs.Ytoihkanneiknkaa

namespace Go.Proofs.Ytoihkanneiknkaa
open Go.RowKit

def DiskAt (w : World) (F : Nat → Prop) (p : Nat) (s : RD) : Prop := ∃ L, DiskM w F p L ∧ L.st = s ∧ s.Inv
section
variable {w w' : World} {F G : Nat → Prop} {p m : Nat} {s : RD} {L : LMem}
theorem DiskAt.only (h : DiskAt w F p s) (ho : Only G w w') (hn : ∀ k, F k → ¬ G k) : DiskAt w' F p s := by
  obtain ⟨L, h, rfl, hi⟩ := h
  exact ⟨L, h.only ho hn, rfl, hi⟩
theorem DiskAt.mono (h : DiskAt w F p s) (hF : ∀ k, F k → G k) : DiskAt w G p s := by
  obtain ⟨L, h, rfl, hi⟩ := h
  exact ⟨L, h.mono hF, rfl, hi⟩
/-- A call has answered n, and left s. -/
def DkOp (F : Nat → Prop) (p : Nat) (s : RD) (n : Nat) (w : World) (e : Ending) (w' : World) : Prop := e = .returned (.int .i64 (n : Int)) ∧ DiskAt w' (Gr F w w') p s ∧ Only F w w'
theorem LOp.dk {n : Nat} {e : Ending} (h : LOp F p s n w e w') (hi : s.Inv) : DkOp F p s n w e w' := by
  obtain ⟨h1, ⟨L', h2, h3⟩, h4⟩ := h
  exact ⟨h1, ⟨L', h2, h3, hi⟩, h4⟩
/-- What New does. -/
def NewAt (room : Int) (w : World) (e : Ending) (w' : World) : Prop :=
  (room < 0 ∨ 1099511627776 < room) ∧ e = .returned (.tuple #[.pointer none, .int .i64 1]) ∧ Below w.heap.size w w' ∨
  (0 ≤ room ∧ room ≤ 1099511627776) ∧ ∃ p F, e = .returned (.tuple #[.pointer (some ⟨p, 0, none⟩), .int .i64 0]) ∧ DiskAt w' F p (RD.new room) ∧ (∀ k, F k → w.heap.size ≤ k ∧ k < w'.heap.size) ∧ Below w.heap.size w w'
theorem disk_new (room : Int) (w : World) (_h : -9223372036854775808 ≤ room ∧ room ≤ 9223372036854775807) : Calls Try.prog 8 #[.int .i64 room] w fun e w' => NewAt room w e w' := by
  by_cases h0 : 0 ≤ room ∧ room ≤ 1099511627776
  · refine Calls.mono (lnew_yes room w h0.1 h0.2) fun e w' ⟨h1, h2⟩ => .inr ⟨h0, w.heap.size, fun k => k = w.heap.size, h1, ?_, ?_, ?_⟩
    · rw [h2]
      exact ⟨LMem.new room, disk_made w room, rfl, Inv_new _ _ _ _ _⟩
    · rintro k rfl
      rw [h2]
      exact ⟨Nat.le_refl _, by simp⟩
    · rw [h2]
      exact (Below.refl _ _).alloc (Nat.le_refl _) _
  · exact Calls.mono (lnew_no room w (by omega)) fun e w' ⟨h1, h2⟩ => .inl ⟨by omega, h1, h2⟩
/-- What is within bounds. -/
structure Well (s : RD) (m : Nat) : Prop where
  ok : s.Ok m
  nice : s.Nice
  small : m ≤ 1000000
structure LIn (L : LMem) : Prop where
  fine : L.Fine
  pr : L.pr.length ≤ 1000000
  safe : ∀ f ∈ L.st.files, f.safe.length ≤ 549755813888
  ends : ∀ q ∈ L.st.pend, q.at' + q.b.length ≤ 549755813888
  srt : L.st.names.Pairwise bLt
theorem well_in (h : Well L.st m) : LIn L := by
  have h1 := ok_sum h.ok
  have hs := h.small
  refine ⟨⟨by omega, h.ok.room, ⟨h.ok.chg.1, by have : L.changes ≤ (m : Int) := h.ok.chg.2; omega⟩, h.ok.left, ?_⟩, ?_, fun f hf => ?_, fun q hq => ?_, h.nice.sorted⟩
  · simpa [LMem.st] using h.ok.files
  · have := h.ok.pend
    simp [LMem.st] at this
    omega
  · have := (h.ok.now f hf).2
    omega
  · have := h.ok.ends q hq
    omega
theorem disk_write (nm : ByteArray) (at' : Int) (b : List UInt8) (A : Option Addr) (c : Nat) (h : DiskAt w F p s) (ho : Well s m) (hn : nm.size ≤ 9223372036854775807) (ha : -9223372036854775808 ≤ at' ∧ at' ≤ 9223372036854775807) (hb : b.length ≤ 1073741824)
    (hr : Reads w w.heap.size 1 A b.length (bv b)) (hs : ∀ ad, A = some ad → ¬ F ad.block) (_hbc : b.length ≤ c) :
    Calls Try.prog 15 #[.pointer (some ⟨p, 0, none⟩), .string nm, .int .i64 at', .slice A b.length c] w fun e w' => DkOp F p (s.write nm at' b).1 (s.write nm at' b).2 w e w' := by
  obtain ⟨L, h, rfl, hi⟩ := h
  have g := well_in ho
  exact Calls.mono (lwrite_any nm at' b A c F p L w h g.fine g.pr hn ha hb hr hs) fun e w' k => LOp.dk k (hi.write g.srt at' b)
theorem disk_load (nm : ByteArray) (b : List UInt8) (A : Option Addr) (c : Nat) (h : DiskAt w F p s) (ho : Well s m) (hn : nm.size ≤ 9223372036854775807) (hb : b.length ≤ 1073741824)
    (hr : Reads w w.heap.size 1 A b.length (bv b)) (hs : ∀ ad, A = some ad → ¬ F ad.block) :
    Calls Try.prog 12 #[.pointer (some ⟨p, 0, none⟩), .string nm, .slice A b.length c] w fun e w' => DkOp F p (s.load nm b).1 (s.load nm b).2 w e w' := by
  obtain ⟨L, h, rfl, hi⟩ := h
  have g := well_in ho
  exact Calls.mono (lload_any nm b A c F p L w h g.fine g.pr hn hb hr hs) fun e w' k => LOp.dk k (hi.load g.srt b)
theorem disk_cut (nm : ByteArray) (n : Int) (h : DiskAt w F p s) (ho : Well s m) (hn : nm.size ≤ 9223372036854775807) (hnn : -9223372036854775808 ≤ n ∧ n ≤ 9223372036854775807) :
    Calls Try.prog 23 #[.pointer (some ⟨p, 0, none⟩), .string nm, .int .i64 n] w fun e w' => DkOp F p (s.cut nm n).1 (s.cut nm n).2 w e w' := by
  obtain ⟨L, h, rfl, hi⟩ := h
  have g := well_in ho
  exact Calls.mono (lcut_any nm n F p L w h g.fine g.pr hn hnn) fun e w' k => LOp.dk k (hi.cut g.srt n)
theorem disk_sync (nm : ByteArray) (h : DiskAt w F p s) (ho : Well s m) (hn : nm.size ≤ 9223372036854775807) :
    Calls Try.prog 16 #[.pointer (some ⟨p, 0, none⟩), .string nm] w fun e w' => DkOp F p (s.sync nm).1 (s.sync nm).2 w e w' := by
  obtain ⟨L, h, rfl, hi⟩ := h
  have g := well_in ho
  exact Calls.mono (lsync_any nm F p L w h g.fine g.pr hn hi.seen (fun f hf => Nat.le_trans (g.safe f hf) (by decide)) fun q hq => Nat.le_trans (g.ends q hq) (by decide)) fun e w' k => LOp.dk k (hi.sync g.srt)
theorem disk_arm (n : Int) (h : DiskAt w F p s) (_hnn : -9223372036854775808 ≤ n ∧ n ≤ 9223372036854775807) :
    Calls Try.prog 26 #[.pointer (some ⟨p, 0, none⟩), .int .i64 n] w fun e w' => DkOp F p (s.arm n).1 (s.arm n).2 w e w' := by
  obtain ⟨L, h, rfl, hi⟩ := h
  exact Calls.mono (larm_any n F p L w h) fun e w' k => LOp.dk k (hi.arm n)
theorem disk_free (h : DiskAt w F p s) (ho : Well s m) : Calls Try.prog 21 #[.pointer (some ⟨p, 0, none⟩)] w fun e w' => e = .returned (.int .i64 s.free) ∧ Below w.heap.size w w' := by
  obtain ⟨L, h, rfl, hi⟩ := h
  have g := well_in ho
  exact lfree_any F p L w h g.fine
theorem disk_changes (h : DiskAt w F p s) : Calls Try.prog 25 #[.pointer (some ⟨p, 0, none⟩)] w fun e w' => e = .returned (.int .i64 s.changes) ∧ Below w.heap.size w w' := by
  obtain ⟨L, h, rfl, hi⟩ := h
  exact Calls.mono (lchanges_any F p L w h) fun e w' ⟨h1, h2⟩ => ⟨h1, h2 ▸ Below.refl _ _⟩
theorem disk_down (h : DiskAt w F p s) : Calls Try.prog 27 #[.pointer (some ⟨p, 0, none⟩)] w fun e w' => e = .returned (.bool s.down) ∧ Below w.heap.size w w' := by
  obtain ⟨L, h, rfl, hi⟩ := h
  exact Calls.mono (ldown_any F p L w h) fun e w' ⟨h1, h2⟩ => ⟨h1, h2 ▸ Below.refl _ _⟩
/-- The names that are told. -/
def RD.told (s : RD) : List ByteArray := if s.down then [] else s.names
def strs (l : List ByteArray) : List Value := l.map .string
def NamesAt (s : RD) (w : World) (e : Ending) (w' : World) : Prop := ∃ v, e = .returned v ∧ w'.ownsRow w.heap.size 9 1 v s.told.length (strs s.told) ∧ Below w.heap.size w w'
theorem disk_names (h : DiskAt w F p s) (ho : Well s m) : Calls Try.prog 24 #[.pointer (some ⟨p, 0, none⟩)] w fun e w' => NamesAt s w e w' := by
  obtain ⟨L, h, rfl, hi⟩ := h
  have g := well_in ho
  refine Calls.mono (lnames_any F p L w h g.fine.few) fun e w' ⟨v, h1, h2, h3⟩ => ⟨v, h1, ?_, h3⟩
  have e1 : L.st.told = if L.down then [] else L.fr.map (·.name) := by
    unfold RD.told
    rw [lst_names]
    rfl
  have e2 : L.st.told.length = (if L.down then [] else L.fr).length := by rw [e1]; split <;> simp
  have e3 : strs L.st.told = (if L.down then [] else L.fr).map fun f => .string f.name := by
    rw [e1]
    unfold strs
    split <;> simp [Function.comp_def]
  rw [e2, e3]
  exact h2
/-- The size that is told. -/
def RD.size (s : RD) (nm : ByteArray) : Int := if s.down = true ∨ s.find nm = none then -1 else s.had nm
theorem disk_size (nm : ByteArray) (h : DiskAt w F p s) (ho : Well s m) (hn : nm.size ≤ 9223372036854775807) : Calls Try.prog 19 #[.pointer (some ⟨p, 0, none⟩), .string nm] w fun e w' => e = .returned (.int .i64 (s.size nm)) ∧ Below w.heap.size w w' := by
  obtain ⟨L, h, rfl, hi⟩ := h
  have g := well_in ho
  refine Calls.mono (size_any nm F p L w h hn) fun e w' ⟨h1, h2⟩ => ⟨?_, h2 ▸ Below.refl _ _⟩
  have e1 : L.st.lsize nm = L.st.size nm := by
    unfold RD.lsize RD.size
    by_cases hna : named nm = false
    · have hf : L.st.find nm = none := pos_none.2 fun hm => by
        obtain ⟨f, hf, e⟩ := List.mem_map.1 hm
        have := ho.nice.named f hf
        rw [e, hna] at this
        cases this
      rw [if_pos (.inl hna), if_pos (.inr hf)]
    · have e : (named nm = false) = False := eq_false hna
      simp only [e, false_or]
  rw [← e1]
  exact h1
theorem disk_read (nm : ByteArray) (at' n : Int) (h : DiskAt w F p s) (ho : Well s m) (hn : nm.size ≤ 9223372036854775807) (ha : -9223372036854775808 ≤ at' ∧ at' ≤ 9223372036854775807) (hnn : -9223372036854775808 ≤ n ∧ n ≤ 9223372036854775807) :
    Calls Try.prog 18 #[.pointer (some ⟨p, 0, none⟩), .string nm, .int .i64 at', .int .i64 n] w fun e w' => ReadAt (s.read nm at' n).1 (s.read nm at' n).2 w e w' := by
  obtain ⟨L, h, rfl, hi⟩ := h
  have g := well_in ho
  exact lread_any nm at' n F p L w h g.fine hn ha hnn
theorem disk_crash (picks : List Int) (A : Option Addr) (c : Nat) (h : DiskAt w F p s) (ho : Well s m) (hpk : picks.length ≤ 9223372036854775807) (hpi : ∀ x ∈ picks, -9223372036854775808 ≤ x ∧ x ≤ 9223372036854775807) (hr : Reads w w.heap.size 1 A picks.length (pv_ picks)) (hs : 0 < picks.length → ∀ ad, A = some ad → ¬ F ad.block) :
    Calls Try.prog 17 #[.pointer (some ⟨p, 0, none⟩), .slice A picks.length c] w fun e w' => e = .returned (.tuple #[]) ∧ DiskAt w' (Gr F w w') p (s.crash picks) ∧ Only F w w' := by
  obtain ⟨L, h, rfl, hi⟩ := h
  have g := well_in ho
  have hth : ∀ q ∈ L.pr, getF L.fr q.name ≠ none ∧ q.name.size ≤ 9223372036854775807 := fun q hq => by
    have h1 : q.name ∈ L.st.names := hi.there q.toP (List.mem_map.2 ⟨q, hq, rfl⟩)
    refine ⟨fun e => ?_, ?_⟩
    · have := (getF_isNone L q.name).2 e
      exact pos_none.1 this h1
    · obtain ⟨f, hf, e⟩ := List.mem_map.1 h1
      have h2 := named_size (ho.nice.named f hf)
      rw [e] at h2
      omega
  refine Calls.mono (lcrash_any picks A c _ p L w h.old (fun k hk => hk.2) g.fine g.pr g.safe g.ends (fun q hq => (hth q hq).2) (fun q hq => (hth q hq).1) hpk hpi hr fun h0 ad e hk => hs h0 ad e hk.1) fun e w' ⟨h1, ⟨L', h2, h3⟩, h4⟩ => ⟨h1, ⟨L', h2.mono ?_, h3, RD.Inv.crash picks⟩, ?_⟩
  · intro k hk
    rcases hk with hk | hk
    · exact .inl hk.1
    · exact .inr hk
  · exact h4.mono fun k _ hk => hk.1
end
end Go.Proofs.Ytoihkanneiknkaa
