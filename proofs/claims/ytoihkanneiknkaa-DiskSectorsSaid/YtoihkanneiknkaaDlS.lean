/- Contract of the landed disk's Crash. Conditions: the disk and the picks are in memory as named, and within bounds; each piece that waits is of a file. -/
import Derived.Test.YtoihkanneiknkaaDlR
import Derived.Test.YtoihkanneiknkaaDkN
namespace Go.Proofs.Ytoihkanneiknkaa
open Go.RowKit Go.Maps
attribute [local go_sem ↓] Go.wp_at_zero Go.wp_at_succ

/-- The safe bytes behind k pieces. -/
def crashA (s : RD) (picks : List Int) (k : Nat) : RD := { s with files := s.files.map fun f => { f with safe := (crashTo f picks s.pend k).1, sure := (crashTo f picks s.pend k).2 } }
theorem crashA_zero (s : RD) (picks : List Int) : crashA s picks 0 = s := by
  unfold crashA
  have e : (s.files.map fun f => ({ f with safe := (crashTo f picks s.pend 0).1, sure := (crashTo f picks s.pend 0).2 } : RF)) = s.files := by
    rw [List.map_congr_left (g := id) fun x _ => by rfl]
    simp
  rw [e]
theorem crashA_skip (s : RD) (picks : List Int) (k : Nat) (hk : k < s.pend.length) (h : keptB picks k = false) : crashA s picks (k + 1) = crashA s picks k := by
  unfold crashA
  congr 1
  refine List.map_congr_left fun f _ => ?_
  rw [crashTo_succ f picks s.pend k hk, crash_skip _ _ _ _ (.inr h)]
theorem crashA_do (s : RD) (picks : List Int) (k : Nat) (hk : k < s.pend.length) (h : keptB picks k = true) :
    crashA s picks (k + 1) = (crashA s picks k).upN s.pend[k].name fun f => { f with safe := s.pend[k].on f.safe, sure := f.sure || !s.pend[k].cut } := by
  simp only [crashA, RD.upN, List.map_map]
  congr 1
  refine List.map_congr_left fun f _ => ?_
  rw [crashTo_succ f picks s.pend k hk]
  show _ = if f.name = s.pend[k].name then _ else _
  by_cases hn : f.name = s.pend[k].name
  · rw [if_pos hn, crash_do _ _ _ _ hn.symm h]
    unfold RP.on
    rcases hc : s.pend[k].cut with _ | _
    · simp
    · simp
  · rw [if_neg hn, crash_skip _ _ _ _ (.inl fun e => hn e.symm)]
theorem crashA_names (s : RD) (picks : List Int) (k : Nat) : (crashA s picks k).names = s.names := by simp [crashA, RD.names, Function.comp_def]
theorem crash_end (s : RD) (picks : List Int) : ((crashA s picks s.pend.length).files.filter (·.sure)).map (fun f => { f with now := f.safe }) = (s.crash picks).files := by
  unfold RD.crash crashA
  simp only
  induction s.files with
  | nil => rfl
  | cons f l ih =>
    rw [List.map_cons, List.filter_cons, List.filterMap_cons]
    unfold crashFile
    simp only
    rcases h : (crashTo f picks s.pend s.pend.length).2 with _ | _
    · simp only [Bool.false_eq_true, if_false]
      exact ih
    · simp only [if_true, List.map_cons]
      congr 1

/-- On the way. -/
structure CrashR (F : Nat → Prop) (p : Nat) (L : LMem) (picks : List Int) (w wr : World) (k : Nat) (L' : LMem) : Prop where
  mem : DiskM wr (Gr F w wr) p L'
  st : L'.st = crashA L.st picks k
  pr : L'.pr = L.pr
  wv : L'.wv = L.wv
  only : Only F w wr
theorem CrashR.alloc {F : Nat → Prop} {p k : Nat} {L L' : LMem} {picks : List Int} {w wr : World} (h : CrashR F p L picks w wr k L') (o : Obj) : CrashR F p L picks w (wr.alloc o) k L' :=
  ⟨(h.mem.below ((Below.refl _ _).alloc (Nat.le_refl _) _)).mono fun j hj => hj.elim .inl fun h1 => .inr ⟨h1.1, by simp; omega⟩, h.st, h.pr, h.wv, h.only.alloc o⟩
theorem crash_file {F : Nat → Prop} {p k : Nat} {L L' : LMem} {picks : List Int} {w wr : World} (h : CrashR F p L picks w wr k L') (nm : ByteArray) (hn : getF L.fr nm ≠ none) : ∃ f, getF L'.fr nm = some f := by
  rcases hg : getF L'.fr nm with _ | f
  · exfalso
    have h1 := getF_find_none hg
    have h2 : L'.st.names = L.st.names := by rw [h.st, crashA_names]
    have h3 : L.st.find nm = none := by unfold RD.find at h1 ⊢; rw [← h2]; exact h1
    exact hn ((getF_isNone L nm).1 h3)
  · exact ⟨f, rfl⟩
theorem tmod_two (x : Int) : (x.tmod 2 == 0) = !decide (x % 2 = 1) := by
  have h1 : x.tmod 2 = 0 ↔ x % 2 = 0 := by
    rw [← Int.dvd_iff_tmod_eq_zero, Int.dvd_iff_emod_eq_zero]
  rw [Bool.eq_iff_iff]
  simp only [beq_iff_eq, Bool.not_eq_true', decide_eq_false_iff_not]
  omega
/-- A file's safe bytes and its mark are what a piece has made of them. -/
theorem DiskM.onBoth {w w1 : World} {F : Nat → Prop} {p : Nat} {L : LMem} {f : GF} (h : DiskM w F p L) (hf : f ∈ L.fr) (l' : List UInt8) (v' : Value) (b : Bool) (ho : w1.ownsRow 0 5 1 v' l'.length (bv l')) (hg : w.grownBy w1 f.sv.ownBlock) (hat : ∀ j, v'.ownBlock = some j → f.sv.ownBlock = some j ∨ w.heap.size ≤ j) (g : RF → RF) (hgf : (⟨f.name, f.now, l', b⟩ : RF) = g f.toF) :
    ∃ L5, DiskM ((w1.setCell ⟨f.g, 1, none⟩ v').setCell ⟨f.g, 2, none⟩ (.bool b)) (Gr F w ((w1.setCell ⟨f.g, 1, none⟩ v').setCell ⟨f.g, 2, none⟩ (.bool b))) p L5 ∧ Only F w ((w1.setCell ⟨f.g, 1, none⟩ v').setCell ⟨f.g, 2, none⟩ (.bool b)) ∧ L5.st = L.st.upN f.name g ∧ L5.pr = L.pr ∧ L5.wv = L.wv := by
  have h1 := h.onSafe hf l' v' ho hg hat (fun x => { x with safe := l' }) rfl
  have hmem : ({ f with sv := v', safe := l' } : GF) ∈ (L.upd { f with sv := v', safe := l' }).fr := List.mem_map.2 ⟨f, hf, by rw [if_pos rfl]⟩
  have h2 := h1.1.sure hmem b
  refine ⟨_, h2.1.mono fun k hk => gr_two h1.2.1 h2.2.1 hk, h1.2.1.then_ h2.2.1, ?_, rfl, rfl⟩
  have h3 := upN_upN L.st f.name (fun x => { x with safe := l' }) (fun x => { x with sure := b }) fun _ => rfl
  rw [h2.2.2, h1.2.2]
  show (L.st.upN f.name _).upN f.name _ = _
  rw [h3]
  refine upN_congr _ _ _ _ fun x hx hxn => ?_
  obtain ⟨y, hy, rfl⟩ := List.mem_map.1 hx
  have : y = f := name_inj h.srt hy hf hxn
  subst this
  exact hgf
end Go.Proofs.Ytoihkanneiknkaa
