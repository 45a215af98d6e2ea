/- The landed disk in memory: what its blocks hold, and that it stays where only other blocks turn. The landed disk's map of files: what a look-up, a length, a store, a deletion make of it. An append of zeros, a copy into a row that is owned: what the operations leave. Contracts of the landed disk: isName, asked, change, there, and bytes.Clone. Contracts of the landed disk: bytes.Clone, used. Conditions: those that each theorem names. -/
import Derived.Test.YtoihkanneiknkaaDkA
import Derived.Test.YtoihkanneiknkaaDkModel
import Derived.Maps.OwnOps
import Derived.Maps.Ext
import Derived.Maps.RangeWalk
import Derived.Lib.SlMapFilter
import Derived.Test.YtoihkanneiknkaaCopy
import Derived.Test.YtoihkanneiknkaaSep
import Derived.Lib.AppendZeros
import Derived.Laws.CopyOwn
namespace Go.Proofs.Ytoihkanneiknkaa
open Go.RowKit Go.Maps

theorem strKey : Keyed Try.prog 9 := string_keyed Try.underlying9
theorem strLit {s : ByteArray} (hs : s.size ≤ maxLen) : keyOf Try.prog 9 (.string s) = some (.string s.data.toList) := Go.WideMaps.keyOf_string_mk Try.underlying9 hs
/-- How a pointer to a block reads. -/
def ptrR : Value → Option (DataW Unit × List MemPlace)
  | .pointer none => some (.nil, [])
  | .pointer (some ⟨g, 0, none⟩) => some (.lit (.int .i64 (g : Int)), [])
  | _ => none
theorem ptrR_inv {v : Value} {y : DataW Unit × List MemPlace} (h : ptrR v = some y) : (v = .pointer none ∧ y = (.nil, [])) ∨ ∃ g : Nat, v = .pointer (some ⟨g, 0, none⟩) ∧ y = (.lit (.int .i64 (g : Int)), []) := by
  unfold ptrR at h
  split at h
  · injection h with h
    exact .inl ⟨rfl, h.symm⟩
  · rename_i g
    injection h with h
    exact .inr ⟨g, rfl, h.symm⟩
  · cases h
theorem ptrR_at {v : Value} {g : Nat} {ps : List MemPlace} (h : ptrR v = some (.lit (.int .i64 (g : Int)), ps)) : v = .pointer (some ⟨g, 0, none⟩) := by
  rcases ptrR_inv h with ⟨rfl, e⟩ | ⟨g', rfl, e⟩
  · simp at e
  · simp at e
    obtain rfl : g = g' := by omega
    rfl
theorem ptrR_nil {v : Value} {ps : List MemPlace} (h : ptrR v = some (.nil, ps)) : v = .pointer none := by
  rcases ptrR_inv h with ⟨rfl, e⟩ | ⟨g', rfl, e⟩
  · rfl
  · simp at e

structure GF where
  name : ByteArray
  g : Nat
  nv : Value
  now : List UInt8
  sv : Value
  safe : List UInt8
  sure : Bool
def GF.toF (f : GF) : RF := ⟨f.name, f.now, f.safe, f.sure⟩
def GF.key (f : GF) : Lit := .string f.name.data.toList
def GF.kv (f : GF) : Lit × DataW Unit := (f.key, .lit (.int .i64 (f.g : Int)))
def GF.Own (f : GF) (k : Nat) : Prop := f.nv.ownBlock = some k ∨ f.sv.ownBlock = some k
def GF.blkOf (f : GF) : Array Value := #[f.nv, f.sv, .bool f.sure]
structure LMem where
  room : Int
  changes : Int
  left : Int
  armed : Bool
  down : Bool
  mv : Option Nat
  wv : Value
  fr : List GF
  pr : List PR
def LMem.st (L : LMem) : RD := ⟨L.room, L.changes, L.left, L.armed, L.down, L.fr.map GF.toF, L.pr.map PR.toP⟩
def LMem.blkOf (L : LMem) : Array Value := #[.int .i64 L.room, .map L.mv, L.wv, .int .i64 L.changes, .bool L.armed, .int .i64 L.left, .bool L.down]
def dmap (l : List GF) : DataW Unit := .map (l.map GF.kv)
def MapIs (w : World) (F : Nat → Prop) (mv : Option Nat) (l : List GF) : Prop := (mv = none ∧ l = []) ∨ ∃ b, mv = some b ∧ F b ∧ w.ownsMap Try.prog 9 ptrR b l.length (dmap l)
def Kind (w : World) (T : TypeId) (k : Nat) : Prop := ∃ cs, Blk w k T cs
/-- A piece's bytes. -/
def PB (w : World) (F : Nat → Prop) (q : PR) : Prop := ∃ A c, q.bv = .slice A q.b.length c ∧ q.b.length ≤ c ∧ Reads w w.heap.size 1 A q.b.length (bv q.b) ∧ ∀ ad, A = some ad → F ad.block ∧ Kind w 5 ad.block
structure FileIs (w : World) (F : Nat → Prop) (f : GF) : Prop where
  blk : Blk w f.g 81 f.blkOf
  fp : F f.g
  now : BOwn w F f.nv f.now
  safe : BOwn w F f.sv f.safe
  two : ∀ k, f.nv.ownBlock = some k → f.sv.ownBlock ≠ some k
/-- The landed disk stands in block p, and owns F. -/
structure DiskM (w : World) (F : Nat → Prop) (p : Nat) (L : LMem) : Prop where
  blk : Blk w p 66 L.blkOf
  fp : F p
  map : MapIs w F L.mv L.fr
  file : ∀ f ∈ L.fr, FileIs w F f
  row : Row w F 88 4 encP L.wv L.pr
  piece : ∀ q ∈ L.pr, PB w F q
  srt : (L.fr.map (·.name)).Pairwise bLt
  apart : ∀ f ∈ L.fr, ∀ f' ∈ L.fr, f.name ≠ f'.name → f.g ≠ f'.g ∧ ∀ k, f.Own k → ¬ f'.Own k
  clear : ∀ q ∈ L.pr, ∀ k, q.bv.ownBlock = some k → ∀ f ∈ L.fr, ¬ f.Own k

section
variable {w w' : World} {F G : Nat → Prop} {p : Nat} {L : LMem} {f : GF} {q : PR} {mv : Option Nat} {l : List GF}
theorem Kind.ne {T T' : TypeId} {k k' : Nat} (h : Kind w T k) (h' : Kind w T' k') (ht : T ≠ T') : k ≠ k' := by
  obtain ⟨cs, hb⟩ := h
  obtain ⟨cs', hb'⟩ := h'
  exact hb.ne_ hb' ht
theorem Kind.lt {T : TypeId} {k : Nat} (h : Kind w T k) : k < w.heap.size := by
  obtain ⟨cs, hb⟩ := h
  exact hb.lt
theorem Kind.only {T : TypeId} {k : Nat} (h : Kind w T k) (ho : Only G w w') (hn : ¬ G k) : Kind w' T k := by
  obtain ⟨cs, hb⟩ := h
  exact ⟨cs, hb.only ho hn⟩
theorem own_kind {base : Nat} {e : TypeId} {size n : Nat} {v : Value} {xs : List Value} (h : w.ownsRow base e size v n xs) {k : Nat} (hk : v.ownBlock = some k) : Kind w e k := by
  rcases h.2 with ⟨rfl, _⟩ | ⟨g, cap, cur, rfl, _, hh, _⟩
  · simp [Value.ownBlock] at hk
  · have : g = k := by simpa [Value.ownBlock] using hk
    subst this
    exact ⟨cur, hh⟩
theorem FileIs.kind (h : FileIs w F f) : Kind w 81 f.g := ⟨_, h.blk⟩
theorem FileIs.own (h : FileIs w F f) {k : Nat} (hk : f.Own k) : Kind w 5 k ∧ F k := by
  rcases hk with hk | hk
  · exact ⟨own_kind h.now.1 hk, h.now.2 k hk⟩
  · exact ⟨own_kind h.safe.1 hk, h.safe.2 k hk⟩
theorem FileIs.off (h : FileIs w F f) (ho : Only G w w') (hg : ¬ G f.g) (hn : ∀ k, f.Own k → ¬ G k) : FileIs w' F f :=
  ⟨h.blk.only ho hg, h.fp, h.now.off ho fun k hk => hn k (.inl hk), h.safe.off ho fun k hk => hn k (.inr hk), h.two⟩
theorem FileIs.mono (h : FileIs w F f) (hF : ∀ k, F k → G k) : FileIs w G f := ⟨h.blk, hF _ h.fp, h.now.mono hF, h.safe.mono hF, h.two⟩
theorem PB.off (h : PB w F q) (ho : Only G w w') (hn : ∀ k, q.bv.ownBlock = some k → ¬ G k) : PB w' F q := by
  obtain ⟨A, c, e, hc, hr, hk⟩ := h
  have hA : ∀ ad, A = some ad → ¬ G ad.block := fun ad he => hn ad.block (by rw [e, he]; rfl)
  refine ⟨A, c, e, hc, ?_, fun ad he => ⟨(hk ad he).1, (hk ad he).2.only ho (hA ad he)⟩⟩
  refine ⟨hr.1, fun h0 => ?_⟩
  obtain ⟨ad, he, hb, hcell⟩ := hr.2 h0
  exact ⟨ad, he, Nat.lt_of_lt_of_le hb ho.size, fun j u hu => (ho.cell (by rw [block_of_add]; exact hb) (by rw [block_of_add]; exact hA ad he)).trans (hcell j u hu)⟩
theorem PB.mono (h : PB w F q) (hF : ∀ k, F k → G k) : PB w G q := by
  obtain ⟨A, c, e, hc, hr, hk⟩ := h
  exact ⟨A, c, e, hc, hr, fun ad he => ⟨hF _ (hk ad he).1, (hk ad he).2⟩⟩
theorem PB.own (h : PB w F q) {k : Nat} (hk : q.bv.ownBlock = some k) : Kind w 5 k ∧ F k := by
  obtain ⟨A, c, e, hc, hr, hh⟩ := h
  rw [e] at hk
  rcases A with _ | ad
  · simp [Value.ownBlock] at hk
  · have : ad.block = k := by simpa [Value.ownBlock] using hk
    subst this
    exact ⟨(hh ad rfl).2, (hh ad rfl).1⟩
theorem MapIs.off (h : MapIs w F mv l) (ho : Only G w w') (hn : ∀ b, mv = some b → ¬ G b) : MapIs w' F mv l := by
  rcases h with h | ⟨b, e, hb, hm⟩
  · exact .inl h
  · have hlt := hm.lt
    obtain ⟨es, clock, h1, h2⟩ := hm
    exact .inr ⟨b, e, hb, es, clock, (ho.block b hlt (hn b e)).trans h1, h2⟩
theorem MapIs.mono (h : MapIs w F mv l) (hF : ∀ k, F k → G k) : MapIs w G mv l := by
  rcases h with h | ⟨b, e, hb, hm⟩
  · exact .inl h
  · exact .inr ⟨b, e, hF b hb, hm⟩
theorem MapIs.fp (h : MapIs w F mv l) {b : Nat} (hb : mv = some b) : F b := by
  rcases h with ⟨h, _⟩ | ⟨b', e, hb', _⟩
  · rw [h] at hb; cases hb
  · rw [e] at hb
    injection hb with hb
    exact hb ▸ hb'
theorem MapIs.ne (h : MapIs w F mv l) {b k : Nat} {T : TypeId} (hb : mv = some b) (hk : Kind w T k) : b ≠ k := by
  rcases h with ⟨h, _⟩ | ⟨b', e, _, es, clock, h1, _⟩
  · rw [h] at hb; cases hb
  · rw [e] at hb
    injection hb with hb
    subst hb
    rintro rfl
    obtain ⟨cs, hc⟩ := hk
    unfold Blk at hc
    rw [hc] at h1
    cases h1
theorem MapIs.lt (h : MapIs w F mv l) {b : Nat} (hb : mv = some b) : b < w.heap.size := by
  rcases h with ⟨h, _⟩ | ⟨b', e, _, hm⟩
  · rw [h] at hb; cases hb
  · rw [e] at hb
    injection hb with hb
    exact hb ▸ hm.lt
theorem Row.kind {α : Type} {enc : α → List Value} {sz : Nat} {T : TypeId} {v : Value} {l : List α} (h : Row w F T sz enc v l) {k : Nat} (hk : v.ownBlock = some k) : Kind w T k := own_kind h.own hk
theorem DiskM.kind (h : DiskM w F p L) : Kind w 66 p := ⟨_, h.blk⟩
theorem DiskM.only (h : DiskM w F p L) (ho : Only G w w') (hn : ∀ k, F k → ¬ G k) : DiskM w' F p L where
  blk := h.blk.only ho (hn p h.fp)
  fp := h.fp
  map := h.map.off ho fun b hb => hn b (h.map.fp hb)
  file := fun f hf => (h.file f hf).off ho (hn _ (h.file f hf).fp) fun k hk => hn k ((h.file f hf).own hk).2
  row := h.row.only ho hn
  piece := fun q hq => (h.piece q hq).off ho fun k hk => hn k ((h.piece q hq).own hk).2
  srt := h.srt
  apart := h.apart
  clear := h.clear
theorem DiskM.mono (h : DiskM w F p L) (hF : ∀ k, F k → G k) : DiskM w G p L :=
  ⟨h.blk, hF p h.fp, h.map.mono hF, fun f hf => (h.file f hf).mono hF, h.row.mono hF, fun q hq => (h.piece q hq).mono hF, h.srt, h.apart, h.clear⟩
theorem DiskM.below (h : DiskM w F p L) (hb : Below w.heap.size w w') : DiskM w' F p L := h.only (Only.of_below (F := fun _ => False) hb) fun _ _ => id
theorem DiskM.cells (h : DiskM w F p L) : w.cell? ⟨p, 0, none⟩ = some (.int .i64 L.room) ∧ w.cell? ⟨p, 1, none⟩ = some (.map L.mv) ∧ w.cell? ⟨p, 2, none⟩ = some L.wv ∧ w.cell? ⟨p, 3, none⟩ = some (.int .i64 L.changes) ∧
    w.cell? ⟨p, 4, none⟩ = some (.bool L.armed) ∧ w.cell? ⟨p, 5, none⟩ = some (.int .i64 L.left) ∧ w.cell? ⟨p, 6, none⟩ = some (.bool L.down) := by
  refine ⟨?_, ?_, ?_, ?_, ?_, ?_, ?_⟩ <;> rw [h.blk.cell] <;> rfl
theorem FileIs.cells (h : FileIs w F f) : w.cell? ⟨f.g, 0, none⟩ = some f.nv ∧ w.cell? ⟨f.g, 1, none⟩ = some f.sv ∧ w.cell? ⟨f.g, 2, none⟩ = some (.bool f.sure) := by
  refine ⟨?_, ?_, ?_⟩ <;> rw [h.blk.cell] <;> rfl
/-- A field of the disk's own block is stored. -/
theorem DiskM.field (h : DiskM w F p L) (i : Nat) (u : Value) (L' : LMem) (hm : L'.mv = L.mv) (hw : L'.wv = L.wv) (hf : L'.fr = L.fr) (hp : L'.pr = L.pr) (hc : L.blkOf.setIfInBounds i u = L'.blkOf) : DiskM (w.setCell ⟨p, i, none⟩ u) F p L' := by
  have ho : Only (fun k => k = p) w (w.setCell ⟨p, i, none⟩ u) := (Only.refl (fun k => k = p) w).setCell (p := ⟨p, i, none⟩) (.inl rfl) u
  exact {
    blk := by
      have := h.blk.set_ i u
      rw [hc] at this
      exact this
    fp := h.fp
    map := by
      rw [hm, hf]
      exact h.map.off ho fun b hb e => h.map.ne hb h.kind e
    file := by
      rw [hf]
      exact fun f hf => (h.file f hf).off ho (fun e => (h.file f hf).kind.ne h.kind (by decide) e) fun k hk e => ((h.file f hf).own hk).1.ne h.kind (by decide) e
    row := by
      rw [hw, hp]
      exact h.row.off ho fun k hk e => (h.row.kind hk).ne h.kind (by decide) e
    piece := by
      rw [hp]
      exact fun q hq => (h.piece q hq).off ho fun k hk e => ((h.piece q hq).own hk).1.ne h.kind (by decide) e
    srt := by rw [hf]; exact h.srt
    apart := by rw [hf]; exact h.apart
    clear := by rw [hf, hp]; exact h.clear }
theorem only_p (h : DiskM w F p L) (i : Nat) (u : Value) : Only F w (w.setCell ⟨p, i, none⟩ u) := (Only.refl F w).setCell (p := ⟨p, i, none⟩) (.inl h.fp) u

/-! ### One file turns -/
def LMem.upd (L : LMem) (f' : GF) : LMem := { L with fr := L.fr.map fun x => if x.name = f'.name then f' else x }
theorem name_inj {l : List GF} (hs : (l.map (·.name)).Pairwise bLt) {f f' : GF} (h : f ∈ l) (h' : f' ∈ l) (e : f.name = f'.name) : f = f' := by
  induction l with
  | nil => cases h
  | cons x l ih =>
    rw [List.map_cons, List.pairwise_cons] at hs
    have hx : ∀ y ∈ l, x.name ≠ y.name := fun y hy ee => by
      have := hs.1 y.name (List.mem_map.2 ⟨y, hy, rfl⟩)
      rw [ee] at this
      exact bLt_irrefl _ this
    rcases List.mem_cons.1 h with h1 | h1
    · rcases List.mem_cons.1 h' with h2 | h2
      · rw [h1, h2]
      · rw [h1] at e
        exact absurd e (hx _ h2)
    · rcases List.mem_cons.1 h' with h2 | h2
      · rw [h2] at e
        exact absurd e.symm (hx _ h1)
      · exact ih hs.2 h1 h2
theorem upd_mem {f' x : GF} (hx : x ∈ (L.upd f').fr) : x = f' ∨ (x ∈ L.fr ∧ x.name ≠ f'.name) := by
  obtain ⟨y, hy, rfl⟩ := List.mem_map.1 hx
  split
  · exact .inl rfl
  · rename_i h
    exact .inr ⟨hy, h⟩
theorem upd_names (f' : GF) : (L.upd f').fr.map (·.name) = L.fr.map (·.name) := by
  simp only [LMem.upd, List.map_map]
  refine List.map_congr_left fun x _ => ?_
  show (if x.name = f'.name then f' else x).name = x.name
  split
  · rename_i h
    exact h.symm
  · rfl
theorem upd_dmap (hs : (L.fr.map (·.name)).Pairwise bLt) (hf : f ∈ L.fr) {f' : GF} (hn : f'.name = f.name) (hg : f'.g = f.g) : dmap (L.upd f').fr = dmap L.fr := by
  unfold dmap
  simp only [LMem.upd, List.map_map]
  congr 1
  refine List.map_congr_left fun x hx => ?_
  show (if x.name = f'.name then f' else x).kv = x.kv
  split
  · rename_i h
    have e := name_inj hs hx hf (h.trans hn)
    subst e
    unfold GF.kv GF.key
    rw [hn, hg]
  · rfl
theorem DiskM.setFile (h : DiskM w F p L) (hf : f ∈ L.fr) (f' : GF) (hn : f'.name = f.name) (hg : f'.g = f.g) (ho : Only (fun k => k = f.g ∨ f.Own k) w w') (hb : Blk w' f.g 81 f'.blkOf)
    (h1 : BOwn w' (Gr F w w') f'.nv f'.now) (h2 : BOwn w' (Gr F w w') f'.sv f'.safe) (h3 : ∀ k, f'.nv.ownBlock = some k → f'.sv.ownBlock ≠ some k) (h4 : ∀ k, f'.Own k → f.Own k ∨ w.heap.size ≤ k) :
    DiskM w' (Gr F w w') p (L.upd f') := by
  have hff := h.file f hf
  have hsub : ∀ k, F k → Gr F w w' k := fun k hk => .inl hk
  have hne : ∀ {T : TypeId} {k : Nat}, Kind w T k → T ≠ 81 → T ≠ 5 → ¬ (k = f.g ∨ f.Own k) := fun hk ht hu e => e.elim (fun e => hk.ne hff.kind ht e) fun e => hk.ne (hff.own e).1 hu rfl
  have hother : ∀ x ∈ L.fr, x.name ≠ f'.name → ∀ k, (k = x.g ∨ x.Own k) → ¬ (k = f.g ∨ f.Own k) := fun x hx hxn k hk e => by
    have ha := h.apart x hx f hf (fun e => hxn (e.trans hn.symm))
    rcases hk with rfl | hk
    · rcases e with e | e
      · exact ha.1 e
      · exact (h.file x hx).kind.ne (hff.own e).1 (by decide) rfl
    · rcases e with e | e
      · exact ((h.file x hx).own hk).1.ne hff.kind (by decide) e
      · exact ha.2 k hk e
  exact {
    blk := h.blk.only ho (hne h.kind (by decide) (by decide))
    fp := .inl h.fp
    map := by
      have hm := (h.map.off ho fun b hb e => by
        rcases e with e | e
        · exact h.map.ne hb hff.kind e
        · exact h.map.ne hb (hff.own e).1 rfl).mono hsub
      unfold MapIs at hm ⊢
      rw [upd_dmap h.srt hf hn hg]
      rcases hm with ⟨e, e2⟩ | hm
      · rw [e2] at hf
        cases hf
      · refine .inr ?_
        have e : (L.upd f').fr.length = L.fr.length := by simp [LMem.upd]
        rw [e]
        exact hm
    file := fun x hx => by
      rcases upd_mem hx with rfl | ⟨hx, hxn⟩
      · exact ⟨by rw [hg]; exact hb, by rw [hg]; exact .inl hff.fp, h1, h2, h3⟩
      · exact ((h.file x hx).off ho (hother x hx hxn _ (.inl rfl)) fun k hk => hother x hx hxn k (.inr hk)).mono hsub
    row := (h.row.off ho fun k hk => hne (h.row.kind hk) (by decide) (by decide)).mono hsub
    piece := fun q hq => ((h.piece q hq).off ho fun k hk e => by
      rcases e with e | e
      · exact ((h.piece q hq).own hk).1.ne hff.kind (by decide) e
      · exact h.clear q hq k hk f hf e).mono hsub
    srt := by rw [upd_names]; exact h.srt
    apart := by
      have hold : ∀ x ∈ L.fr, x.name ≠ f'.name → x.g ≠ f'.g ∧ ∀ k, x.Own k → ¬ f'.Own k := fun x hx hxn => by
        have ha := h.apart x hx f hf (fun e => hxn (e.trans hn.symm))
        refine ⟨by rw [hg]; exact ha.1, fun k hk e => ?_⟩
        rcases h4 k e with e | e
        · exact ha.2 k hk e
        · have := ((h.file x hx).own hk).1.lt
          omega
      intro x hx y hy hxy
      rcases upd_mem hx with ex | ⟨hx1, hxn⟩
      · rcases upd_mem hy with ey | ⟨hy1, hyn⟩
        · exact absurd (by rw [ex, ey]) hxy
        · have := hold y hy1 hyn
          rw [ex]
          exact ⟨fun e => this.1 e.symm, fun k hk e => this.2 k e hk⟩
      · rcases upd_mem hy with ey | ⟨hy1, hyn⟩
        · rw [ey]
          exact hold x hx1 hxn
        · exact h.apart x hx1 y hy1 hxy
    clear := fun q hq k hk x hx e => by
      rcases upd_mem hx with rfl | ⟨hx, hxn⟩
      · rcases h4 k e with e | e
        · exact h.clear q hq k hk f hf e
        · have := ((h.piece q hq).own hk).1.lt
          omega
      · exact h.clear q hq k hk x hx e }
end
end Go.Proofs.Ytoihkanneiknkaa

namespace Go.Proofs.Ytoihkanneiknkaa
open Go.RowKit Go.Maps

def getF (l : List GF) (nm : ByteArray) : Option GF := l.find? fun f => decide (f.name = nm)
def ptrOf (l : List GF) (nm : ByteArray) : Option Addr := (getF l nm).map fun f => ⟨f.g, 0, none⟩
theorem getF_some {l : List GF} {nm : ByteArray} {f : GF} (h : getF l nm = some f) : f ∈ l ∧ f.name = nm := ⟨List.mem_of_find?_eq_some h, by simpa using List.find?_some h⟩
theorem getF_none {l : List GF} {nm : ByteArray} (h : getF l nm = none) : ∀ f ∈ l, f.name ≠ nm := fun f hf e => by
  have := List.find?_eq_none.1 h f hf
  simp [e] at this
theorem key_same (f : GF) (nm : ByteArray) : f.key.sameKey (.string nm.data.toList) = decide (f.name = nm) := by
  show (f.name.data.toList == nm.data.toList) = _
  have := str_eq f.name nm
  rw [Lib.toList_data, Lib.toList_data] at this
  exact this
theorem key_inj {f f' : GF} (h : f.key = f'.key) : f.name = f'.name := by
  have := key_same f f'.name
  have e : Lit.string f'.name.data.toList = f'.key := rfl
  rw [e, h] at this
  have h2 : f'.key.sameKey f'.key = true := WideAt.sameKey_self (by exact trivial)
  rw [h2] at this
  simpa using this.symm
theorem dmap_find (l : List GF) (nm : ByteArray) : (l.map GF.kv).find? (fun p => p.1.sameKey (.string nm.data.toList)) = (getF l nm).map GF.kv := by
  rw [List.find?_map]
  unfold getF
  congr 1
  congr 1
  funext f
  exact key_same f nm
theorem dmap_has (l : List GF) (nm : ByteArray) : has (dmap l) (.string nm.data.toList) = (getF l nm).isSome := by
  unfold dmap
  rw [has_eq, List.any_map]
  unfold getF
  rw [Bool.eq_iff_iff, List.any_eq_true, List.find?_isSome]
  simp only [decide_eq_true_eq, Function.comp]
  constructor
  · rintro ⟨x, hx, e⟩
    rw [show (GF.kv x).1 = x.key from rfl, key_same] at e
    exact ⟨x, hx, by simpa using e⟩
  · rintro ⟨x, hx, e⟩
    exact ⟨x, hx, by rw [show (GF.kv x).1 = x.key from rfl, key_same]; simpa using e⟩
theorem dmap_at (l : List GF) (nm : ByteArray) (z : DataW Unit) : (dmap l).atKey (.string nm.data.toList) z = match getF l nm with | some f => .lit (.int .i64 (f.g : Int)) | none => z := by
  unfold dmap DataW.atKey
  simp only [dmap_find]
  rcases getF l nm with _ | f <;> rfl
theorem dmap_size (l : List GF) : size (dmap l) = l.length := by simp [dmap, size]

theorem zeroPtr (w : World) : (zeroValue 78).run Try.prog w = .ok (.pointer none) w := by kernel_rfl

section
variable {w w' : World} {F G : Nat → Prop} {p : Nat} {L : LMem} {f : GF} {mv : Option Nat} {l : List GF}
theorem look_run (h : MapIs w F mv l) (nm : ByteArray) (hn : nm.size ≤ 9223372036854775807) :
    (Instr.lookup 63 (.map mv) (.string nm) true).run Try.prog w = .ok (.tuple #[.pointer (ptrOf l nm), .bool (getF l nm).isSome]) w := by
  have hk := strLit (s := nm) (by unfold maxLen; omega)
  rcases h with ⟨rfl, rfl⟩ | ⟨b, rfl, _, hm⟩
  · exact Maps.look_nil true strKey Try.underlying63 (zeroPtr w) hk
  · obtain ⟨v, ps, hrun, hv⟩ := hm.look_ok strKey Try.underlying63 (zeroPtr w) (zd := .nil) (zp := []) rfl hk
    rw [hrun, dmap_has]
    rw [dmap_at] at hv
    have e : v = .pointer (ptrOf l nm) := by
      unfold ptrOf
      rcases hg : getF l nm with _ | f
      · rw [hg] at hv
        exact ptrR_nil hv
      · rw [hg] at hv
        exact ptrR_at hv
    rw [e]
theorem look_run1 (h : MapIs w F mv l) (nm : ByteArray) (hn : nm.size ≤ 9223372036854775807) :
    (Instr.lookup 63 (.map mv) (.string nm) false).run Try.prog w = .ok (.pointer (ptrOf l nm)) w := by
  have hk := strLit (s := nm) (by unfold maxLen; omega)
  rcases h with ⟨rfl, rfl⟩ | ⟨b, rfl, _, hm⟩
  · exact Maps.look_nil false strKey Try.underlying63 (zeroPtr w) hk
  · obtain ⟨v, ps, hrun, hv⟩ := hm.lookup strKey Try.underlying63 (zeroPtr w) (zd := .nil) (zp := []) rfl hk
    rw [hrun]
    rw [dmap_at] at hv
    have e : v = .pointer (ptrOf l nm) := by
      unfold ptrOf
      rcases hg : getF l nm with _ | f
      · rw [hg] at hv
        exact ptrR_nil hv
      · rw [hg] at hv
        exact ptrR_at hv
    rw [e]
theorem len_run (h : MapIs w F mv l) (ty : TypeId) : (Builtin.len_ #[63] ty #[.map mv]).run Try.prog w = .ok (.int .i64 (l.length : Int)) w := by
  rcases h with ⟨rfl, rfl⟩ | ⟨b, rfl, _, hm⟩
  · exact Maps.len_nil Try.underlying63 ty
  · rw [hm.len Try.underlying63 ty, dmap_size]

/-! ### A key that is new -/
theorem before_lt (a b : List UInt8) : bytesBefore a b = decide (a < b) := by
  induction a generalizing b with
  | nil =>
    cases b with
    | nil => simp [bytesBefore]
    | cons y b => simp [bytesBefore]
  | cons x a ih =>
    cases b with
    | nil => simp [bytesBefore]
    | cons y b =>
      rw [bytesBefore, ih]
      rw [Bool.eq_iff_iff]
      simp only [Bool.or_eq_true, Bool.and_eq_true, decide_eq_true_eq, beq_iff_eq, List.cons_lt_cons_iff]
theorem insert_put (x : GF) (l : List GF) (hs : (l.map (·.name)).Pairwise bLt) (hn : ∀ f ∈ l, f.name ≠ x.name) : DataW.insert x.kv (l.map GF.kv) = (putAt l (lessN x.name (l.map (·.name))) x).map GF.kv := by
  induction l with
  | nil => rfl
  | cons y l ih =>
    rw [List.map_cons, List.map_cons, DataW.insert, lessN]
    rw [List.map_cons, List.pairwise_cons] at hs
    have e : x.kv.1.before y.kv.1 = decide (x.name.data.toList < y.name.data.toList) := before_lt _ _
    rw [e]
    by_cases hlt : y.name.data.toList < x.name.data.toList
    · have h2 : ¬ x.name.data.toList < y.name.data.toList := fun h3 => bLt_irrefl x.name (bLt_trans (b := y.name) h3 hlt)
      rw [if_pos hlt, decide_eq_false h2, if_neg (by simp), ih hs.2 fun f hf => hn f (List.mem_cons_of_mem _ hf)]
      simp [putAt]
    · have h2 : x.name.data.toList < y.name.data.toList := bLt_of (a := y.name) (b := x.name) hlt (hn y List.mem_cons_self)
      rw [if_neg hlt, decide_eq_true h2, if_pos rfl]
      simp [putAt]
theorem dmap_put (x : GF) (l : List GF) (hs : (l.map (·.name)).Pairwise bLt) (hn : ∀ f ∈ l, f.name ≠ x.name) : (dmap l).put x.key (.lit (.int .i64 (x.g : Int))) = dmap (putAt l (lessN x.name (l.map (·.name))) x) := by
  unfold dmap DataW.put
  simp only
  congr 1
  rw [List.filter_eq_self.2]
  · exact insert_put x l hs hn
  · intro p hp
    obtain ⟨f, hf, rfl⟩ := List.mem_map.1 hp
    have h1 : (GF.kv f).1.sameKey x.key = decide (f.name = x.name) := key_same f x.name
    rw [h1]
    simp [hn f hf]
theorem dmap_filter (pd : Lit → DataW Unit → Bool) (l : List GF) : Lib.deleteFuncD pd (dmap l) = dmap (l.filter fun f => !pd f.key (.lit (.int .i64 (f.g : Int)))) := by
  unfold Lib.deleteFuncD dmap
  simp only [List.filter_map]
  rfl
theorem owns_fit {b n : Nat} (hm : w.ownsMap Try.prog 9 ptrR b n (dmap l)) : w.ownsMap Try.prog 9 ptrR b l.length (dmap l) := by
  obtain ⟨es, clock, h1, h2, h3, h4⟩ := hm
  refine ⟨es, clock, h1, h2, ?_, h4⟩
  have := congrArg size h4
  rw [dmap_size] at this
  rw [this]
  simp [size, length_sorted]
/-- An entry that a range meets is a file. -/
theorem dmap_meets {kl : Lit} {y : DataW Unit} (h : ∀ zd, (dmap l).atKey kl zd = y) : ∃ f ∈ l, f.key = kl ∧ y = .lit (.int .i64 (f.g : Int)) := by
  have h1 := has_true_of_atKey h
  unfold dmap at h1
  rw [has_eq, List.any_map] at h1
  obtain ⟨f, hf, he⟩ := List.any_eq_true.1 h1
  have hk : f.key = kl := WideAt.sameKey_eq he
  have h2 := h .nil
  have e : kl = .string f.name.data.toList := hk.symm
  rw [e, dmap_at] at h2
  rcases hg : getF l f.name with _ | f'
  · exact absurd rfl (getF_none hg f hf)
  · rw [hg] at h2
    have := getF_some hg
    exact ⟨f', this.1, by rw [← hk]; unfold GF.key; rw [this.2], h2.symm⟩
end
end Go.Proofs.Ytoihkanneiknkaa

namespace Go.Proofs.Ytoihkanneiknkaa
open Go.RowKit

theorem zeros_list (z : Value) (hz : z.cells = #[z]) (n : Nat) : (Builtin.zeroCells z.cells n).toList = List.replicate n z := by
  rw [hz]
  simp [Builtin.zeroCells]
  apply List.ext_getElem
  · simp
  · intro i h1 h2
    simp [Nat.mod_one]
theorem zeros_arr (z : Value) (hz : z.cells = #[z]) (n : Nat) : Builtin.zeroCells z.cells n = (List.replicate n z).toArray := by
  apply Array.ext'
  rw [zeros_list z hz]

section
variable {P : Program} (w : World)
theorem run_append_zeros (t tn ty e : TypeId) (i : TypeInfo) (z : Value) (ht : P.underlying t = some (.slice e)) (htn : P.underlying tn = some (.int .i64)) (hi : P.info? e = some i) (hz : i.zero = some z) (hzc : z.cells = #[z]) (h1 : z.oneCell' = true)
    (hsize : i.size = 1) (hby : i.bytes = 1) (v : Value) (n : Nat) (xs : List Value) (hown : w.ownsRow 0 e 1 v n xs) (m : Nat) (h0 : 0 < m) (hb : n + m ≤ 140737488355328) :
    ∃ v' w', (Builtin.append_ #[t, tn] ty #[v, .int .i64 (m : Int)]).run P w = .ok v' w' ∧ w'.ownsRow 0 e 1 v' (n + m) (xs ++ List.replicate m z) ∧ w.grownBy w' v.ownBlock ∧ (v'.ownBlock = v.ownBlock ∨ v'.ownBlock = some w.heap.size) := by
  have hlen : (xs ++ List.replicate m z).length = (n + m) * 1 := by rw [List.length_append, hown.1, List.length_replicate]; omega
  have hcsz : z.cells.size = 1 := by rw [hzc]; rfl
  have grown : ∀ (old : Nat) (row : Option Nat),
      (w.drew.alloc (.cells (xs.toArray ++ (List.replicate m z).toArray ++ Builtin.zeroCells z.cells (grownCap w (n + m) old e - (n + m))) e)).ownsRow 0 e 1
        (.slice (some ⟨w.heap.size, 0, none⟩) (n + m) (grownCap w (n + m) old e)) (n + m) (xs ++ List.replicate m z) ∧
      w.grownBy (w.drew.alloc (.cells (xs.toArray ++ (List.replicate m z).toArray ++ Builtin.zeroCells z.cells (grownCap w (n + m) old e - (n + m))) e)) row := by
    intro old row
    have hge := grownCap_ge w (n + m) old e
    have hcm : grownCap w (n + m) old e ≤ maxLen := grownCap_le_maxLen w (n + m) old e (by unfold maxLen; omega)
    refine ⟨⟨hlen, .inr ⟨w.heap.size, _, _, rfl, Nat.zero_le _, heap_alloc_new w.drew _, hge, hcm, ?_, ?_⟩⟩, ⟨rfl, rfl, rfl, by simp, fun k hk _ => Below.heap_alloc w.drew _ k hk⟩⟩
    · simp only [Array.size_append, List.size_toArray, size_zeroCells, hcsz, hown.1, List.length_replicate]
      omega
    · simp only [Array.toList_append, List.append_assoc]
      rw [← List.append_assoc, ← hlen]
      exact List.take_left
  have hwr : IntKind.i64.wrap (m : Int) = m := by rw [IntKind.wrap_i64]; omega
  have hneg : ¬ ((m : Int) < 0) := by omega
  have hm0 : m ≠ 0 := by omega
  have h48i : ¬ (281474976710656 < (m : Int)) := by omega
  have h63' : ¬ (9223372036854775807 < ((n : Int) + (m : Int))) := by omega
  rcases hown.2 with ⟨rfl, rfl⟩ | ⟨g, cap, cur, rfl, hbg, hg, hnc, hcm, hcs, htake⟩
  · have hx : xs = [] := List.eq_nil_of_length_eq_zero (by simpa using hown.1)
    subst hx
    have hr := Lib.run_append_nil_zeros (P := P) w t tn ty e i z .i64 .i64 ht htn hi hz m h0 (by omega) (by omega) (by rw [hby]; omega)
    have hgr := grown 0 (Value.ownBlock (.slice none 0 0))
    simp only [Nat.zero_add, List.nil_append, Array.empty_append] at hgr ⊢
    rw [zeros_arr z hzc m] at hr
    exact ⟨_, _, hr, hgr.1, hgr.2, .inr rfl⟩
  · by_cases hroom : n + m ≤ cap
    · have hst := run_storeCells_at P g n e (List.replicate m z) 0 cur w hg (by rw [List.length_replicate]; omega) (fun u hu => by rw [List.eq_of_mem_replicate hu]; exact h1)
      simp only [Nat.add_zero] at hst
      have hr : (Builtin.append_ #[t, tn] ty #[.slice (some ⟨g, 0, none⟩) n cap, .int .i64 (m : Int)]).run P w =
          .ok (.slice (some ⟨g, 0, none⟩) (n + m) cap) (w.setRow g (cur.toList.take n ++ List.replicate m z ++ cur.toList.drop (n + (List.replicate m z).length)).toArray) := by
        simp [Builtin.append_, run_underlying ht, run_underlying htn, sizeOf, typeInfo, zeroValue, hi, hz, asInt, asIntOf, hwr, hneg, hm0, hsize, hby, h48i, hroom, zeros_arr z hzc, Addr.add_lit] at hst ⊢
        simp [hst]
      refine ⟨_, _, hr, ⟨hlen, .inr ⟨g, cap, _, rfl, hbg, setRow_heap w g cur _ e _ hg, hroom, hcm, ?_, ?_⟩⟩, ⟨rfl, rfl, rfl, by simp, fun k _ hk => setRow_other w g k _ (fun e => hk (by simp [Value.ownBlock, e]))⟩, .inl rfl⟩
      · simp only [List.size_toArray, List.length_append, List.length_take, List.length_drop, Array.length_toList, List.length_replicate]
        omega
      · rw [Nat.mul_one] at htake
        rw [htake, ← hlen]
        exact List.take_left
    · have holds : ∀ j u, xs[j]? = some u → w.cell? ((⟨g, 0, none⟩ : Addr).add j) = some u := hown.cells (g := g) rfl
      have hfo := run_firstCells_some (P := P) w.drew 1 n ⟨g, 0, none⟩ n cap xs hown.1 (by simpa using holds)
      have h48' : ¬ (281474976710656 < Builtin.nextslicecap (n + m) cap) := by
        have := growslice_fits (need := n + m) (old := cap) (bytes := 1) (by omega) (by omega)
        omega
      have hr : (Builtin.append_ #[t, tn] ty #[.slice (some ⟨g, 0, none⟩) n cap, .int .i64 (m : Int)]).run P w =
          .ok (.slice (some ⟨w.heap.size, 0, none⟩) (n + m) (grownCap w (n + m) cap e)) (w.drew.alloc (.cells (xs.toArray ++ (List.replicate m z).toArray ++ Builtin.zeroCells z.cells (grownCap w (n + m) cap e - (n + m))) e)) := by
        simp [Builtin.append_, run_underlying ht, run_underlying htn, sizeOf, typeInfo, zeroValue, hi, hz, asInt, asIntOf, hwr, hneg, hm0, hsize, hby, h48i, h63', h48', hroom, Question.forced, hfo, newRow, grownCap, zeros_arr z hzc]
      have hgr := grown cap (Value.ownBlock (.slice (some ⟨g, 0, none⟩) n cap))
      exact ⟨_, _, hr, hgr.1, hgr.2, .inr rfl⟩

theorem wpList_append_zeros {ops : Array Oper} {rest : List Oper} {o : Oper} {a : Act} {Q : Exit → Act → World → Prop} (hgd : o.guard = none) (s x : Operand) (t tn : TypeId)
    (ho : o.op = .call { callee := .builtin .append, args := #[s, x], argTypes := #[t, tn] }) (e : TypeId) (i : TypeInfo) (z : Value) (ht : P.underlying t = some (.slice e)) (htn : P.underlying tn = some (.int .i64)) (hi : P.info? e = some i) (hz : i.zero = some z) (hzc : z.cells = #[z]) (h1 : z.oneCell' = true)
    (hsize : i.size = 1) (hby : i.bytes = 1) (v : Value) (n : Nat) (xs : List Value) (hs : a.eval s = v) (hown : w.ownsRow 0 e 1 v n xs) (m : Nat) (hx : a.eval x = .int .i64 (m : Int)) (h0 : 0 < m) (hb : n + m ≤ 140737488355328)
    (h : ∀ v' w', w'.ownsRow 0 e 1 v' (n + m) (xs ++ List.replicate m z) → w.grownBy w' v.ownBlock → (v'.ownBlock = v.ownBlock ∨ v'.ownBlock = some w.heap.size) → wpList P ops Q rest (a.put o.dst v') w') : wpList P ops Q (o :: rest) a w := by
  obtain ⟨v', w', hr, h2, h3, h4⟩ := run_append_zeros (P := P) w t tn o.type e i z ht htn hi hz hzc h1 hsize hby v n xs hown m h0 hb
  exact Lib.wpList_append_run w hgd s x t tn ho v (.int .i64 (m : Int)) hs hx v' w' hr (h v' w' h2 h3 h4)

/-- A copy into a row from a place on, as a step of a region. -/
theorem step_copy_row {ops : Array Oper} {o : Oper} {a : Act} {K : Act → World → Prop} {Q : Exit → Act → World → Prop} {E : Prop} (hgd : o.guard = none) (d s : Operand) (dT sT : TypeId)
    (ho : o.op = .call { callee := .builtin .copy, args := #[d, s], argTypes := #[dT, sT] }) (elem : TypeId) (hu : P.underlying dT = some (.slice elem)) (hsz : (P.info? elem).map (·.size) = some 1)
    (dp sp : Option Addr) (dLen dCap sLen sCap : Nat) (hd : a.eval d = .slice dp dLen dCap) (hs : a.eval s = .slice sp sLen sCap)
    (v : Value) (n off : Nat) (xs cs : List Value) (hown : w.ownsRow 0 elem 1 v n xs) (hn : cs.length = Nat.min sLen dLen)
    (hpos : 0 < cs.length → (∃ g, v.ownBlock = some g ∧ dp = some ⟨g, off, none⟩) ∧ ∃ ad, sp = some ad ∧ ∀ j v, cs[j]? = some v → w.cell? (ad.add j) = some v)
    (hfit : off + cs.length ≤ n) (h1 : ∀ v ∈ cs, v.oneCell' = true)
    (h : ∀ w', w'.ownsRow 0 elem 1 v n (splice xs off cs) → w.grownBy w' v.ownBlock → K (a.put o.dst (goInt cs.length)) w') :
    if Region.wanted o (yielded ops a.tmps) = true then Oper.wp P o a w K Q else E := by
  have hw : Region.wanted o (yielded ops a.tmps) = true := by simp [Region.wanted, hgd]
  rw [if_pos hw]
  by_cases h0 : cs.length = 0
  · obtain rfl : cs = [] := List.eq_nil_of_length_eq_zero h0
    have hrun := run_copy_none (P := P) w dT sT o.type elem dp sp dLen dCap sLen sCap hu hsz (by simpa using hn.symm)
    unfold Oper.wp
    simp [execOp, ho, resolve, invoke, builtin, hd, hs, hrun, Result.andThen]
    exact h w (by simpa [splice] using hown) (World.grownBy.refl _ _)
  · obtain ⟨⟨g, hg, rfl⟩, ad, rfl, hsrc⟩ := hpos (by omega)
    rcases hown.2 with ⟨rfl, _⟩ | ⟨g', cap, cur, rfl, hbg, hgg, hnc, hcm, hcs, htake⟩
    · simp [Value.ownBlock] at hg
    · obtain rfl : g' = g := by simpa [Value.ownBlock] using hg
      have hrun := run_copy_row (P := P) w dT sT o.type elem g' off dLen dCap ad sLen sCap cur elem cs hu hsz hgg hn hsrc (by omega) h1
      unfold Oper.wp
      simp [execOp, ho, resolve, invoke, builtin, hd, hs, hrun, Result.andThen]
      refine h _ ⟨?_, .inr ⟨g', cap, _, rfl, hbg, setRow_heap w g' cur _ elem _ hgg, hnc, hcm, ?_, ?_⟩⟩ ⟨rfl, rfl, rfl, by simp, fun k _ hk => setRow_other w g' k _ (fun e => hk (by simp [Value.ownBlock, e]))⟩
      · rw [length_splice _ _ _ (by rw [hown.1]; omega), hown.1]
      · simp only [List.size_toArray, List.length_append, List.length_take, List.length_drop, Array.length_toList]
        omega
      · rw [Nat.mul_one] at htake ⊢
        rw [← htake]
        unfold splice
        simp only [List.take_append, List.length_take, Array.length_toList, List.take_take, List.drop_take]
        congr 1
        · congr 1; omega
        · congr 1
          · rw [List.take_of_length_le (by omega)]
          · congr 1; omega
end
end Go.Proofs.Ytoihkanneiknkaa

namespace Go.Proofs.Ytoihkanneiknkaa
open Go.RowKit Go.Maps

set_option maxHeartbeats 800000 in
theorem isName_any (s : ByteArray) (w : World) (hs : s.size ≤ 9223372036854775807) :
    Calls Try.prog 38 #[.string s] w fun e w' => e = .returned (.bool (named s)) ∧ w = w' := by
  have HE := Lib.hid (named_eq s)
  go_enter Try.func38, Try.ntmps38
  go_wp2
  go_loop [6] (fun i => ∃ k : Nat, k ≤ s.size ∧ i = .int .i64 k ∧ Hid ((s.data.toList.take k).all okB = true)) (fun i => s.size - (intOf i).toNat)
  case atStart => exact ⟨0, Nat.zero_le _, rfl, rfl⟩
  case round =>
    obtain ⟨k, hk, rfl, HN⟩ := hrel
    by_cases hlt : k < s.size
    · have hi : (k : Int) < (s.size : Int) := by omega
      have hl : k < s.data.toList.length := by simpa using hlt
      have e1 : s.data.toList[k] = s[k] := by simp; rfl
      have HT : Hid ((s.data.toList.take (k + 1)).all okB = okB s[k]) := Lib.hid (by
        rw [List.take_succ_eq_append_getElem hl, List.all_append, HN.out, e1]
        simp)
      have HF : Hid (okB s[k] = false → named s = false) := Lib.hid (fun hf => by
        rw [HE.out]
        have : s.data.toList.all okB = false := List.all_eq_false.2 ⟨s[k], by rw [← e1]; exact List.getElem_mem hl, by simp [hf]⟩
        rw [this, Bool.and_false])
      have ho : okB s[k] = (decide (97 ≤ s[k].toNat) && decide (s[k].toNat ≤ 122)) := rfl
      rw [ho] at HT HF
      clear ho e1
      by_cases hc1 : 97 ≤ s[k].toNat
      · have hc1' : (97 : Int) ≤ (s[k].toNat : Int) := by omega
        by_cases hc2 : s[k].toNat ≤ 122
        · have hc2' : (s[k].toNat : Int) ≤ 122 := by omega
          rw [decide_eq_true hc1, decide_eq_true hc2] at HT
          clear hc1 hc2 HF
          go_wp2
          go_round
          case rel => exact ⟨k + 1, by omega, by go_num, HT⟩
          case measure => simp [intOf]; omega
        · have hc2' : (122 : Int) < (s[k].toNat : Int) := by omega
          have HR := Lib.hid (HF.out (by simp; omega))
          clear hc1 hc2 HF HT
          go_wp2
          go_ret
          rw [HR.out]
          exact ⟨rfl, rfl⟩
      · have hc1' : (s[k].toNat : Int) < 97 := by omega
        have HR := Lib.hid (HF.out (by simp; omega))
        clear hc1 HF HT
        go_wp2
        go_ret
        rw [HR.out]
        exact ⟨rfl, rfl⟩
    · obtain rfl : k = s.size := by omega
      have hn := HN.out
      rw [List.take_of_length_le (by simp)] at hn
      have HR : Hid (named s = (decide (1 ≤ s.size) && decide (s.size ≤ 16))) := Lib.hid (by rw [HE.out, hn, Bool.and_true])
      clear hn HN HE hlt
      by_cases h1 : 1 ≤ s.size
      · by_cases h2 : s.size ≤ 16
        · have h1' : (0 : Int) < (s.size : Int) := by omega
          have h2' : (s.size : Int) ≤ 16 := by omega
          rw [decide_eq_true h1, decide_eq_true h2] at HR
          clear h1 h2
          go_wp2
          go_ret
          rw [HR.out]
          exact ⟨rfl, rfl⟩
        · have h1' : (0 : Int) < (s.size : Int) := by omega
          have h2' : (16 : Int) < (s.size : Int) := by omega
          rw [decide_eq_true h1, decide_eq_false h2] at HR
          clear h1 h2
          go_wp2
          go_ret
          rw [HR.out]
          refine ⟨?_, rfl⟩
          show Ending.returned (.bool (decide ((s.size : Int) ≤ 16))) = _
          rw [decide_eq_false (by omega)]
          rfl
      · have h1' : (s.size : Int) ≤ 0 := by omega
        rw [decide_eq_false h1] at HR
        clear h1
        go_wp2
        go_ret
        rw [HR.out]
        exact ⟨rfl, rfl⟩

/-- What is asked ahead of any file. -/
def askN (s : RD) (nm : ByteArray) : Nat := if named nm = false then 1 else if s.down = true then 8 else 0
set_option maxHeartbeats 800000 in
theorem asked_any (nm : ByteArray) (F : Nat → Prop) (p : Nat) (L : LMem) (w : World) (h : DiskM w F p L) (hn : nm.size ≤ 9223372036854775807) :
    Calls Try.prog 43 #[.pointer (some ⟨p, 0, none⟩), .string nm] w fun e w' => e = .returned (.int .i64 (askN L.st nm : Int)) ∧ w = w' := by
  obtain ⟨c0, c1, c2, c3, c4, c5, c6⟩ := h.cells
  have HNm := Lib.hid (isName_any nm w hn)
  clear h c0 c1 c2 c3 c4 c5
  have hdn : L.st.down = L.down := rfl
  unfold askN
  rw [hdn]
  clear hdn
  rcases hnm : named nm with _ | _
  · rw [hnm] at HNm
    simp only [if_true]
    clear hnm
    go_enter Try.func43, Try.ntmps43
    go_wp2_with (go_at_call 38; refine HNm.out.mono ?_; rintro e w' ⟨rfl, rfl⟩)
    go_ret
    exact ⟨rfl, rfl⟩
  · rw [hnm] at HNm
    clear hnm
    rcases hdn : L.down with _ | _
    all_goals
      rw [hdn] at c6
      clear hdn
      simp only [Bool.true_eq_false, Bool.false_eq_true, if_false, if_true]
      go_enter Try.func43, Try.ntmps43
      go_wp2_with (go_at_call 38; refine HNm.out.mono ?_; rintro e w' ⟨rfl, rfl⟩)
      go_ret
      exact ⟨rfl, rfl⟩

/-- A change that is counted. -/
def LMem.tick (L : LMem) : LMem := if L.armed && decide (L.left = 0) then { L with down := true } else { L with left := if L.armed then L.left - 1 else L.left, changes := L.changes + 1 }
theorem ltick_st (L : LMem) : L.tick.st = if L.st.stops then L.st.off else L.st.ticked := by
  unfold LMem.tick RD.stops
  show _ = if (L.armed && decide (L.left = 0)) = true then _ else _
  split <;> rfl
theorem ltick_fr (L : LMem) : L.tick.fr = L.fr ∧ L.tick.pr = L.pr ∧ L.tick.mv = L.mv ∧ L.tick.wv = L.wv := by unfold LMem.tick; split <;> exact ⟨rfl, rfl, rfl, rfl⟩

set_option maxHeartbeats 800000 in
theorem lchange_any (F : Nat → Prop) (p : Nat) (L : LMem) (w : World) (h : DiskM w F p L) (hc : 0 ≤ L.changes ∧ L.changes ≤ 1152921504606846976) (hl : 0 ≤ L.left ∧ L.left ≤ 9223372036854775807) :
    Calls Try.prog 44 #[.pointer (some ⟨p, 0, none⟩)] w fun e w' => e = .returned (.int .i64 (if L.st.stops then 8 else 0)) ∧ DiskM w' F p L.tick ∧ Only F w w' := by
  obtain ⟨c0, c1, c2, c3, c4, c5, c6⟩ := h.cells
  have HR := Lib.hid h
  have fz := h.blk.frozen
  have HF := Lib.hid h.fp
  have hst : L.st.stops = (L.armed && decide (L.left = 0)) := rfl
  rw [hst]
  have HT : Hid (L.tick = if L.armed && decide (L.left = 0) then { L with down := true } else { L with left := if L.armed then L.left - 1 else L.left, changes := L.changes + 1 }) := rfl
  obtain ⟨hc1, hc2⟩ := hc
  obtain ⟨hl1, hl2⟩ := hl
  clear h hst
  rcases ha : L.armed with _ | _
  · rw [ha] at c4
    simp only [ha, Bool.false_and, Bool.false_eq_true, if_false] at HT ⊢
    have H2 := Lib.hid (HR.out.field 3 (.int .i64 (L.changes + 1)) { L with changes := L.changes + 1 } rfl rfl rfl rfl (by simp [LMem.blkOf]))
    go_enter Try.func44, Try.ntmps44
    go_wp2
    go_ret
    rw [HT.out]
    have e : ({ room := L.room, changes := L.changes + 1, left := L.left, armed := false, down := L.down, mv := L.mv, wv := L.wv, fr := L.fr, pr := L.pr } : LMem) = { L with changes := L.changes + 1 } := by rw [← ha]
    rw [e]
    exact ⟨rfl, H2.out, (Only.refl _ _).setCell (.inl HF.out) _⟩
  · rw [ha] at c4
    by_cases h0 : L.left = 0
    · rw [h0] at c5
      simp only [ha, h0, decide_true, Bool.and_true, if_true] at HT ⊢
      have H2 := Lib.hid (HR.out.field 6 (.bool true) { L with down := true } rfl rfl rfl rfl (by simp [LMem.blkOf]))
      go_enter Try.func44, Try.ntmps44
      go_wp2
      go_ret
      rw [HT.out]
      have e : ({ room := L.room, changes := L.changes, left := 0, armed := true, down := true, mv := L.mv, wv := L.wv, fr := L.fr, pr := L.pr } : LMem) = { L with down := true } := by rw [← ha, ← h0]
      rw [e]
      exact ⟨rfl, H2.out, (Only.refl _ _).setCell (.inl HF.out) _⟩
    · have h0' : 1 ≤ L.left := by omega
      simp only [ha, decide_eq_false h0, Bool.and_false, Bool.false_eq_true, if_false, if_true] at HT ⊢
      have H2 := Lib.hid ((HR.out.field 5 (.int .i64 (L.left - 1)) { L with left := L.left - 1 } rfl rfl rfl rfl (by simp [LMem.blkOf])).field 3 (.int .i64 (L.changes + 1)) { L with left := L.left - 1, changes := L.changes + 1 } rfl rfl rfl rfl (by simp [LMem.blkOf]))
      clear h0
      go_enter Try.func44, Try.ntmps44
      go_wp2
      go_ret
      rw [HT.out]
      have e : ({ room := L.room, changes := L.changes + 1, left := L.left - 1, armed := true, down := L.down, mv := L.mv, wv := L.wv, fr := L.fr, pr := L.pr } : LMem) = { L with left := L.left - 1, changes := L.changes + 1 } := by rw [← ha]
      rw [e]
      exact ⟨rfl, H2.out, ((Only.refl _ _).setCell (.inl HF.out) _).setCell (.inl HF.out) _⟩

/-- What is told of a file that has to be there. -/
def thereV (L : LMem) (nm : ByteArray) : Option Addr := if askN L.st nm = 0 then ptrOf L.fr nm else none
def thereN (L : LMem) (nm : ByteArray) : Nat := if askN L.st nm = 0 then (if (getF L.fr nm).isSome then 0 else 6) else askN L.st nm
set_option maxRecDepth 100000 in
set_option maxHeartbeats 800000 in
theorem there_any (nm : ByteArray) (F : Nat → Prop) (p : Nat) (L : LMem) (w : World) (h : DiskM w F p L) (hn : nm.size ≤ 9223372036854775807) :
    Calls Try.prog 47 #[.pointer (some ⟨p, 0, none⟩), .string nm] w fun e w' => e = .returned (.tuple #[.pointer (thereV L nm), .int .i64 (thereN L nm : Int)]) ∧ w = w' := by
  have HA := Lib.hid (asked_any nm F p L w h hn)
  obtain ⟨c0, c1, c2, c3, c4, c5, c6⟩ := h.cells
  have hlook := look_run h.map nm hn
  clear h c0 c2 c3 c4 c5 c6
  unfold thereV thereN ptrOf
  have hask : askN L.st nm = 1 ∨ askN L.st nm = 8 ∨ askN L.st nm = 0 := by
    unfold askN
    split
    · exact .inl rfl
    · split
      · exact .inr (.inl rfl)
      · exact .inr (.inr rfl)
  rcases hask with ha | ha | ha
  · rw [ha] at HA ⊢
    simp only [show ((1 : Nat) = 0) = False from by simp, if_false]
    clear ha
    go_enter Try.func47, Try.ntmps47
    go_wp2_with (go_at_call 43; refine HA.out.mono ?_; rintro e w' ⟨rfl, rfl⟩)
    go_ret2
    exact ⟨rfl, rfl⟩
  · rw [ha] at HA ⊢
    simp only [show ((8 : Nat) = 0) = False from by simp, if_false]
    clear ha
    go_enter Try.func47, Try.ntmps47
    go_wp2_with (go_at_call 43; refine HA.out.mono ?_; rintro e w' ⟨rfl, rfl⟩)
    go_ret2
    exact ⟨rfl, rfl⟩
  · rw [ha] at HA ⊢
    simp only [if_true]
    unfold ptrOf at hlook
    clear ha
    rcases hg : getF L.fr nm with _ | f
    · rw [hg] at hlook
      simp only [Option.map_none, Option.isSome_none] at hlook ⊢
      clear hg
      go_enter Try.func47, Try.ntmps47
      go_wp2_with (go_at_call 43; refine HA.out.mono ?_; rintro e w' ⟨rfl, rfl⟩)
      go_ret2
      exact ⟨rfl, rfl⟩
    · rw [hg] at hlook
      simp only [Option.map_some, Option.isSome_some] at hlook ⊢
      clear hg
      go_enter Try.func47, Try.ntmps47
      go_wp2_with (go_at_call 43; refine HA.out.mono ?_; rintro e w' ⟨rfl, rfl⟩)
      go_ret2
      exact ⟨rfl, rfl⟩
end Go.Proofs.Ytoihkanneiknkaa

namespace Go.Proofs.Ytoihkanneiknkaa
open Go.RowKit Go.Maps

set_option maxRecDepth 100000 in
set_option maxHeartbeats 400000 in
theorem clone_any (l : List UInt8) (A : Option Addr) (c : Nat) (w : World) (hl : l.length ≤ 140737488355328) (h : Reads w w.heap.size 1 A l.length (bv l)) :
    Calls Try.prog 42 #[.slice A l.length c] w fun e w' => ∃ v, e = .returned v ∧ w'.ownsRow w.heap.size 5 1 v l.length (bv l) ∧ Below w.heap.size w w' := by
  obtain ⟨i0, hi0, hz0, hz1, hz2⟩ := info_parts u8info
  have hnil := Lib.run_eql_slice_nil (P := Try.prog) w 41 5 A l.length c 0 0 Try.underlying41
  have HR := Lib.hid h
  rcases A with _ | ad
  · have h0 : l = [] := by
      rcases Nat.eq_zero_or_pos l.length with h1 | h1
      · exact List.eq_nil_of_length_eq_zero h1
      · obtain ⟨ad, e, _⟩ := h.2 h1
        cases e
    subst h0
    clear h
    simp only [Option.isNone_none, List.length_nil] at hnil ⊢
    go_enter Try.func42, Try.ntmps42
    go_wp2
    go_ret
    exact ⟨_, rfl, own_nil _ _ _ _, Below.refl _ _⟩
  · clear h
    simp only [Option.isNone_some] at hnil
    have hmade : (w.alloc (.cells #[] 5)).ownsRow w.heap.size 5 1 (.slice (some ⟨w.heap.size, 0, none⟩) 0 0) 0 [] := World.ownsRow_made w #[] 0 (Nat.le_refl _) (Nat.zero_le _) rfl
    have HM := Lib.hid hmade
    clear hmade
    go_enter Try.func42, Try.ntmps42
    go_wp2_with (at_builtin; refine wpList_append_any _ rfl _ _ 41 rfl w.heap.size 5 i0 (.int .u8 0) 1 1 Try.underlying41 hi0 hz0 hz1 hz2 rfl (by decide) _ _ _ rfl HM.out w.heap.size (some ad) l.length c (bv l) rfl (HR.out.alloc (Nat.le_refl _) _) (bv_one l) (by unfold maxLen; omega) (by omega) (alloc_ge (Nat.le_refl _) _) ?_; intro v' w1 hown' hgrow _; rw [Nat.zero_add, List.nil_append] at hown')
    go_ret
    exact ⟨_, rfl, hown', ((Below.refl _ _).alloc (Nat.le_refl _) _).grown hgrow (by simp) (own_ge HM.out)⟩

/-! ### How many bytes all files have -/
theorem lst_sum (L : LMem) : L.st.sum = (L.fr.map (·.now.length)).sum := by simp [LMem.st, RD.sum, GF.toF, Function.comp_def]
theorem sum_filter_le (l : List GF) (q : GF → Bool) (g : GF → Nat) : ((l.filter q).map g).sum ≤ (l.map g).sum := by
  induction l with
  | nil => simp
  | cons x l ih =>
    rw [List.filter_cons]
    split <;> simp only [List.map_cons, List.sum_cons] <;> omega
theorem left_other {x f : GF} (h : x.name ≠ f.name) : x.key.sameKey f.key = false := by
  have : x.key.sameKey f.key = decide (x.name = f.name) := key_same x f.name
  rw [this]
  simp [h]
theorem left_same (f : GF) : f.key.sameKey f.key = true := WideAt.sameKey_self (by exact trivial)
theorem sum_step (g : GF → Nat) (l : List GF) (hs : (l.map (·.name)).Pairwise bLt) (f : GF) (hf : f ∈ l) (left : Lit → Bool) (hl : left f.key = true) :
    ((l.filter fun x => !(left x.key && !x.key.sameKey f.key)).map g).sum = ((l.filter fun x => !left x.key).map g).sum + g f := by
  induction l with
  | nil => cases hf
  | cons x l ih =>
    rw [List.map_cons, List.pairwise_cons] at hs
    have hx : ∀ y ∈ l, x.name ≠ y.name := fun y hy ee => by
      have := hs.1 y.name (List.mem_map.2 ⟨y, hy, rfl⟩)
      rw [ee] at this
      exact bLt_irrefl _ this
    rw [List.filter_cons, List.filter_cons]
    rcases List.mem_cons.1 hf with h1 | h1
    · subst h1
      have e : (l.filter fun y => !(left y.key && !y.key.sameKey f.key)) = l.filter fun y => !left y.key := List.filter_congr fun y hy => by
        rw [left_other (x := y) (f := f) (fun e => hx y hy e.symm)]
        simp
      rw [e, left_same, hl]
      simp only [Bool.not_true, Bool.and_false, Bool.not_false, if_true, Bool.false_eq_true, if_false, List.map_cons, List.sum_cons]
      omega
    · have := ih hs.2 h1
      rw [left_other (x := x) (f := f) (hx f h1)]
      simp only [Bool.not_false, Bool.and_true]
      split <;> simp only [List.map_cons, List.sum_cons, this] <;> omega
/-- What a range over the files still has to come. -/
theorem left_start (l : List GF) : ∀ f ∈ l, has (dmap l) f.key = true := fun f hf => by
  show has (dmap l) (.string f.name.data.toList) = true
  rw [dmap_has]
  unfold getF
  rw [List.find?_isSome]
  exact ⟨f, hf, by simp⟩

set_option maxRecDepth 100000 in
set_option maxHeartbeats 1600000 in
theorem used_any (F : Nat → Prop) (p : Nat) (L : LMem) (w : World) (h : DiskM w F p L) (hs : L.st.sum ≤ 1152921504606846976) :
    Calls Try.prog 51 #[.pointer (some ⟨p, 0, none⟩)] w fun e w' => e = .returned (.int .i64 (L.st.sum : Int)) ∧ Below w.heap.size w w' := by
  obtain ⟨c0, c1, c2, c3, c4, c5, c6⟩ := h.cells
  have HR := Lib.hid h
  have HM := Lib.hid h.map
  clear h c0 c2 c3 c4 c5 c6
  rw [lst_sum] at hs ⊢
  rcases hmv : L.mv with _ | b
  · rw [hmv] at c1 HM
    have HE : Hid (L.fr = []) := Lib.hid (by
      rcases HM.out with ⟨_, e⟩ | ⟨b, e, _⟩
      · exact e
      · cases e)
    rw [HE.out]
    clear hmv hs
    have hrg := run_range_nilMap (P := Try.prog) w 63 _ _ Try.underlying63
    have hnx : ∀ ty, (Instr.next (.pointer (some ⟨w.heap.size, 0, none⟩)) false ty).run Try.prog (w.alloc (.mapIter none 0 #[] 0)) = _ := fun ty => run_next_nilMap w ty 0 0 #[]
    go_enter Try.func51, Try.ntmps51
    go_wp2
    refine wp_loop_rounds 1 ?_
    rw [rounds_succ]
    go_wp2
    go_ret
    exact ⟨rfl, (Below.refl _ _).alloc (Nat.le_refl _) _⟩
  · rw [hmv] at c1 HM
    have HO : Hid (w.ownsMap Try.prog 9 ptrR b L.fr.length (dmap L.fr)) := Lib.hid (by
      rcases HM.out with ⟨e, _⟩ | ⟨b', e, _, hm⟩
      · cases e
      · injection e with e
        subst e
        exact hm)
    clear hmv HM
    go_enter Try.func51, Try.ntmps51
    go_wp2_with (first
      | (at_range; refine wpList_range_own _ rfl _ 63 rfl 9 78 strKey Try.underlying63 ptrR b _ _ rfl HO.out ?_; intro w0 hrg0 hg0 hs0)
      | go_in)
    go_frame
    go_loopw [3] (fun s3 wr => ∃ (left : Lit → Bool) (cnt n : Nat), wr.ranges Try.prog 9 ptrR b w.heap.size L.fr.length (dmap L.fr) left cnt ∧ s3 = .int .i64 (n : Int) ∧ Hid (n = ((L.fr.filter fun f => !left f.key).map (·.now.length)).sum) ∧ Below w.heap.size w wr)
      (fun _ wr => wr.rangeLeft b w.heap.size)
    case atStart =>
      refine ⟨_, _, 0, hrg0, rfl, Lib.hid ?_, ⟨hg0.os, hg0.tape, hg0.output, hg0.size, fun k hk => hg0.block k hk (by simp)⟩⟩
      rw [List.filter_eq_nil_iff.2 fun f hf => by rw [left_start L.fr f hf]; simp]
      rfl
    case round =>
      obtain ⟨left, cnt, n, hrg, rfl, HN, hbel⟩ := hrel
      go_wp2_with (first
        | (at_next; refine wpList_next_ranges _ rfl _ rfl 9 strKey ptrR id Value.pointer (fun key _ _ => ⟨key, rfl⟩) (fun v y hv => by rcases ptrR_inv hv with ⟨e, _⟩ | ⟨g, e, _⟩ <;> exact ⟨_, e⟩) b w.heap.size _ _ _ _ rfl hrg ?_ ?_)
        | go_in)
      · intro _ hl0
        have HE : Hid (n = (L.fr.map (·.now.length)).sum) := Lib.hid (by
          rw [HN.out, List.filter_eq_self.2 fun f _ => by rw [hl0]; rfl])
        clear hl0 hs
        go_wp2
        go_ret
        rw [HE.out]
        exact ⟨rfl, hbel⟩
      · intro x c kl y yp w1 cnt1 hkey hlx hv hat hrg1 hlt hg1 hs1 hen
        obtain ⟨f, hf, hfk, hy⟩ := dmap_meets hat
        obtain rfl : c = some ⟨f.g, 0, none⟩ := by
          have : ptrR (.pointer c) = some (.lit (.int .i64 (f.g : Int)), yp) := by rw [hv, ← hy]
          have := ptrR_at this
          injection this
        have hb1 : Below w.heap.size w w1 := hbel.grown hg1 hbel.size (fun k hk => by injection hk with hk; omega)
        have d0 := (hb1.cell (p := ⟨f.g, 0, none⟩) (HR.out.file f hf).blk.lt).trans (HR.out.file f hf).cells.1
        obtain ⟨A, cc, hnv, -, -, -⟩ := (HR.out.file f hf).now.value
        rw [hnv] at d0
        have HS : Hid (((L.fr.filter fun x => !(left x.key && !x.key.sameKey kl)).map (·.now.length)).sum = n + f.now.length) := Lib.hid (by
          rw [HN.out, ← hfk]
          exact sum_step (·.now.length) L.fr HR.out.srt f hf left (by rw [hfk]; exact hlx))
        have hle := sum_filter_le L.fr (fun x => !(left x.key && !x.key.sameKey kl)) (·.now.length)
        rw [HS.out] at hle
        have hle2 : n + f.now.length ≤ 1152921504606846976 := by omega
        clear hle hat hy hv hlx hfk hkey hnv
        generalize f.now.length = m at *
        have HL := Lib.hid hlt
        clear hlt
        go_wp2
        go_roundw
        case rel => exact ⟨_, cnt1, n + m, hrg1, by go_num, Lib.hid HS.out.symm, hb1⟩
        case measure => rw [hrg1.left_eq, hrg.left_eq]; exact HL.out
end Go.Proofs.Ytoihkanneiknkaa
