/- Contract of the landed disk's wait. Conditions: the pieces are read; their numbers are within bounds. -/
import Derived.Test.YtoihkanneiknkaaDlI
namespace Go.Proofs.Ytoihkanneiknkaa
open Go.RowKit Go.Maps
attribute [local go_sem ↓] Go.wp_at_zero Go.wp_at_succ

/-- All files of a name turned. -/
def RD.upN (s : RD) (nm : ByteArray) (g : RF → RF) : RD := { s with files := s.files.map fun f => if f.name = nm then g f else f }
/-- A piece done on bytes. -/
def RP.on (q : RP) (l : List UInt8) : List UInt8 := if q.cut then l.take q.at' else layB l q.at' q.b
def waitOne (s : RD) (q : RP) : RD := (s.made q.name).upN q.name fun f => { f with now := q.on f.now }
section
variable {w w' : World} {F G : Nat → Prop} {p : Nat} {L : LMem} {f f' : GF}
theorem upd_st (g : RF → RF) (hs : (L.fr.map (·.name)).Pairwise bLt) (hf : f ∈ L.fr) (hn : f'.name = f.name) (hg : f'.toF = g f.toF) : (L.upd f').st = L.st.upN f.name g := by
  simp only [LMem.st, LMem.upd, RD.upN, List.map_map]
  congr 1
  refine List.map_congr_left fun x hx => ?_
  show (if x.name = f'.name then f' else x).toF = if x.name = f.name then g x.toF else x.toF
  rw [hn]
  split
  · rename_i e
    rw [name_inj hs hx hf e, hg]
  · rfl
/-- What is read and owned is below the world's end. -/
theorem DiskM.old (h : DiskM w F p L) : DiskM w (fun k => F k ∧ k < w.heap.size) p L where
  blk := h.blk
  fp := ⟨h.fp, h.blk.lt⟩
  map := by
    rcases h.map with hm | ⟨b, e, hb, hm⟩
    · exact .inl hm
    · exact .inr ⟨b, e, ⟨hb, hm.lt⟩, hm⟩
  file := fun f hf => ⟨(h.file f hf).blk, ⟨(h.file f hf).fp, (h.file f hf).blk.lt⟩, ⟨(h.file f hf).now.1, fun k hk => ⟨(h.file f hf).now.2 k hk, (own_kind (h.file f hf).now.1 hk).lt⟩⟩, ⟨(h.file f hf).safe.1, fun k hk => ⟨(h.file f hf).safe.2 k hk, (own_kind (h.file f hf).safe.1 hk).lt⟩⟩, (h.file f hf).two⟩
  row := ⟨h.row.own, fun k hk => ⟨h.row.fp k hk, h.row.lt hk⟩⟩
  piece := fun q hq => by
    obtain ⟨A, c, e, hc, hr, hk⟩ := h.piece q hq
    exact ⟨A, c, e, hc, hr, fun ad had => ⟨⟨(hk ad had).1, (hk ad had).2.lt⟩, (hk ad had).2⟩⟩
  srt := h.srt
  apart := h.apart
  clear := h.clear
theorem PB.value {q : PR} (h : PB w F q) : ∃ A c, q.bv = .slice A q.b.length c := by
  obtain ⟨A, c, e, _⟩ := h
  exact ⟨A, c, e⟩
theorem PB.cell {q : PR} (h : PB w F q) : q.bv.oneCell' = true := by
  obtain ⟨A, c, e, _⟩ := h
  rw [e]
  rfl
theorem PB.same {q : PR} (h : PB w F q) (hs : w.heap.size ≤ w'.heap.size) (hk : ∀ k, q.bv.ownBlock = some k → w'.heap[k]? = w.heap[k]?) : PB w' F q := by
  obtain ⟨A, c, e, hc, hr, hkk⟩ := h
  have hA : ∀ ad, A = some ad → w'.heap[ad.block]? = w.heap[ad.block]? := fun ad he => hk ad.block (by rw [e, he]; rfl)
  refine ⟨A, c, e, hc, ⟨hr.1, fun h0 => ?_⟩, fun ad he => ⟨(hkk ad he).1, ?_⟩⟩
  · obtain ⟨ad, he, hb, hcell⟩ := hr.2 h0
    exact ⟨ad, he, Nat.lt_of_lt_of_le hb hs, fun j u hu => (World.cell?_of_block (by rw [block_of_add]; exact hA ad he)).trans (hcell j u hu)⟩
  · obtain ⟨cs, hb⟩ := (hkk ad he).2
    exact ⟨cs, (hA ad he).trans hb⟩
/-- Pieces are pushed behind those that wait. -/
theorem DiskM.push {prs : List PR} {w1 : World} {v : Value} (h : DiskM w F p L) (hg : w.grownBy w1 L.wv.ownBlock) (ho : w1.ownsRow 0 88 4 v (L.pr.length + prs.length) (flat encP L.pr ++ flat encP prs)) (hat : v.ownBlock = L.wv.ownBlock ∨ v.ownBlock = some w.heap.size)
    (hp : ∀ q ∈ prs, PB w F q) (hc : ∀ q ∈ prs, ∀ k, q.bv.ownBlock = some k → ∀ f ∈ L.fr, ¬ f.Own k) :
    DiskM (w1.setCell ⟨p, 2, none⟩ v) (Gr F w (w1.setCell ⟨p, 2, none⟩ v)) p { L with wv := v, pr := L.pr ++ prs } ∧ Only F w (w1.setCell ⟨p, 2, none⟩ v) := by
  have hsz : (w1.setCell ⟨p, 2, none⟩ v).heap.size = w1.heap.size := by simp [World.setCell]
  have ho1 : Only (fun k => L.wv.ownBlock = some k) w w1 := (Only.refl _ w).grown hg fun k hk => .inl hk
  have ho2 : Only (fun k => L.wv.ownBlock = some k ∨ k = p) w (w1.setCell ⟨p, 2, none⟩ v) := (ho1.mono fun k _ hk => .inl hk).setCell (p := ⟨p, 2, none⟩) (.inl (.inr rfl)) v
  have hsub : ∀ k, F k → Gr F w (w1.setCell ⟨p, 2, none⟩ v) k := fun k hk => .inl hk
  have hne : ∀ {T : TypeId} {k : Nat}, Kind w T k → T ≠ 88 → T ≠ 66 → ¬ (L.wv.ownBlock = some k ∨ k = p) := fun hk h1 h2 e => e.elim (fun e => hk.ne (h.row.kind e) h1 rfl) fun e => hk.ne h.kind h2 e
  have hpp : ¬ L.wv.ownBlock = some p := fun e => (h.row.kind e).ne h.kind (by decide) rfl
  have hvp : v.ownBlock ≠ some p := fun e => by
    rcases hat with h1 | h1
    · rw [h1] at e; exact hpp e
    · rw [h1] at e
      injection e with e
      have := h.blk.lt
      omega
  refine ⟨{
    blk := by
      have := (h.blk.only ho1 hpp).set_ 2 v
      simpa [LMem.blkOf] using this
    fp := hsub _ h.fp
    map := (h.map.off ho2 fun b hb e => by
      rcases e with e | e
      · exact h.map.ne hb (h.row.kind e) rfl
      · exact h.map.ne hb h.kind e).mono hsub
    file := fun f hf => ((h.file f hf).off ho2 (hne (h.file f hf).kind (by decide) (by decide)) fun k hk => hne ((h.file f hf).own hk).1 (by decide) (by decide)).mono hsub
    row := ⟨by
      rw [List.length_append, flat_append]
      exact own_only ho ((Only.refl (fun k => k = p) w1).setCell (p := ⟨p, 2, none⟩) (.inl rfl) v) fun k hk e => hvp (e ▸ hk), fun k hk => by
      rcases hat with h1 | h1
      · rw [h1] at hk
        exact .inl (h.row.fp k hk)
      · have := (ho.lt k hk).2
        rw [h1] at hk
        injection hk with hk
        exact .inr ⟨by omega, by rw [hsz]; exact this⟩⟩
    piece := fun q hq => by
      rcases List.mem_append.1 hq with hq | hq
      · exact ((h.piece q hq).off ho2 fun k hk => hne ((h.piece q hq).own hk).1 (by decide) (by decide)).mono hsub
      · exact ((hp q hq).off ho2 fun k hk => hne ((hp q hq).own hk).1 (by decide) (by decide)).mono hsub
    srt := h.srt
    apart := h.apart
    clear := fun q hq k hk f hf => by
      rcases List.mem_append.1 hq with hq | hq
      · exact h.clear q hq k hk f hf
      · exact hc q hq k hk f hf }, ho2.mono fun k _ hk => hk.elim (fun e => h.row.fp k e) fun e => e ▸ h.fp⟩

/-- A file's bytes are what a piece has made of them. -/
theorem DiskM.onNow (h : DiskM w F p L) (hf : f ∈ L.fr) (l' : List UInt8) (v' : Value) {w1 : World} (ho : w1.ownsRow 0 5 1 v' l'.length (bv l')) (hg : w.grownBy w1 f.nv.ownBlock) (hat : ∀ j, v'.ownBlock = some j → f.nv.ownBlock = some j ∨ w.heap.size ≤ j) (g : RF → RF) (hgf : (⟨f.name, l', f.safe, f.sure⟩ : RF) = g f.toF) :
    DiskM (w1.setCell ⟨f.g, 0, none⟩ v') (Gr F w (w1.setCell ⟨f.g, 0, none⟩ v')) p (L.upd { f with nv := v', now := l' }) ∧ Only F w (w1.setCell ⟨f.g, 0, none⟩ v') ∧ (L.upd { f with nv := v', now := l' }).st = L.st.upN f.name g := by
  have hff := h.file f hf
  have ho1 : Only (fun k => f.nv.ownBlock = some k) w w1 := (Only.refl _ w).grown hg fun k hk => .inl hk
  have ho2 : Only (fun k => k = f.g ∨ f.Own k) w (w1.setCell ⟨f.g, 0, none⟩ v') := (ho1.mono fun k _ hk => .inr (.inl hk)).setCell (p := ⟨f.g, 0, none⟩) (.inl (.inl rfl)) v'
  have hgn : ¬ f.nv.ownBlock = some f.g := fun e => (hff.own (.inl e)).1.ne hff.kind (by decide) rfl
  have hsz : (w1.setCell ⟨f.g, 0, none⟩ v').heap.size = w1.heap.size := by simp [World.setCell]
  have ho3 : Only (fun k => f.nv.ownBlock = some k ∨ k = f.g) w (w1.setCell ⟨f.g, 0, none⟩ v') := (ho1.mono fun k _ hk => .inl hk).setCell (p := ⟨f.g, 0, none⟩) (.inl (.inr rfl)) v'
  have hog : Only (fun k => k = f.g) w1 (w1.setCell ⟨f.g, 0, none⟩ v') := (Only.refl (fun k => k = f.g) w1).setCell (p := ⟨f.g, 0, none⟩) (.inl rfl) v'
  have hvg : ∀ k, v'.ownBlock = some k → ¬ k = f.g := fun k hk e => by
    rcases hat k hk with h1 | h1
    · exact hgn (e ▸ h1)
    · have := hff.blk.lt
      omega
  have hlast : ∀ k, v'.ownBlock = some k → f.sv.ownBlock ≠ some k := fun k hk e => by
    rcases hat k hk with h1 | h1
    · exact hff.two k h1 e
    · have := (hff.own (.inr e)).1.lt
      omega
  refine ⟨h.setFile hf _ rfl rfl ho2 ?_ ⟨own_only ho hog hvg, fun k hk => ?_⟩ ?_ hlast fun k hk => ?_, ho2.mono fun k _ hk => hk.elim (fun e => e ▸ hff.fp) fun e => (hff.own e).2, ?_⟩
  · have := (hff.blk.only ho1 hgn).set_ 0 v'
    simpa [GF.blkOf] using this
  · have := (ho.lt k hk).2
    rcases hat k hk with h1 | h1
    · exact .inl (hff.now.2 k h1)
    · exact .inr ⟨h1, by rw [hsz]; exact this⟩
  · exact (hff.safe.off ho3 fun k hk e => by
      rcases e with e | e
      · exact hff.two k e hk
      · exact (hff.own (.inr hk)).1.ne hff.kind (by decide) e).mono fun k hk => .inl hk
  · rcases hk with hk | hk
    · rcases hat k hk with h1 | h1
      · exact .inl (.inl h1)
      · exact .inr h1
    · exact .inl (.inr hk)
  · exact upd_st g h.srt hf rfl hgf
theorem grown_drew {row : Option Nat} (h : w.drew.grownBy w' row) : w.grownBy w' row := ⟨h.os, h.tape, h.output, h.size, h.block⟩
theorem on_any (q : PR) (hf : f ∈ L.fr) (h : DiskM w F p L) (hq : PB w G q) (hc : ∀ k, q.bv.ownBlock = some k → ¬ f.Own k) (hb : f.now.length ≤ 1099511627776) (hn : q.at' + q.b.length ≤ 1099511627776) :
    Calls Try.prog 48 #[.agg #[.string q.name, .int .i64 (q.at' : Int), q.bv, .bool q.cut], f.nv] w fun e w' => OnAt f.nv (q.toP.on f.now) w e w' := by
  obtain ⟨A, c, hv, hlc, hcm, -⟩ := (h.file f hf).now.value
  have hown := (h.file f hf).now.1
  rw [hv] at hown ⊢
  obtain ⟨nm, a, qv, b, cut⟩ := q
  obtain ⟨Ak, ck, e, hck, hr, -⟩ := hq
  have e2 : qv = .slice Ak b.length ck := e
  clear e
  subst e2
  have hck : b.length ≤ ck := hck
  have hr : Reads w w.heap.size 1 Ak b.length (bv b) := hr
  have hn : a + b.length ≤ 1099511627776 := hn
  rcases cut with _ | _
  · exact on_write nm a b Ak ck f.now A c w hown hr hck (fun ad had e => hc ad.block (by rw [had]; rfl) (.inl (by rw [hv]; exact e))) (by omega) (by omega)
  · exact on_cut nm a (.slice Ak b.length ck) f.now A c w hown (by omega) (by omega)
theorem lpr_cells {F : Nat → Prop} {v : Value} {l : List PR} {T : TypeId} (h : Row w F T 4 encP v l) (hn : 0 < l.length) :
    ∃ g cap, v = .slice (some ⟨g, 0, none⟩) l.length cap ∧ F g ∧ g < w.heap.size ∧ l.length ≤ cap ∧ cap ≤ maxLen ∧
      (∀ k (hl : k < l.length), w.cell? ⟨g, k * 4, none⟩ = some (.string l[k].name) ∧ w.cell? ⟨g, k * 4 + 1, none⟩ = some (.int .i64 (l[k].at' : Int)) ∧ w.cell? ⟨g, k * 4 + 2, none⟩ = some l[k].bv ∧ w.cell? ⟨g, k * 4 + 3, none⟩ = some (.bool l[k].cut)) ∧ ∀ i, w.frozen? ⟨g, i, none⟩ = false := by
  obtain ⟨g, cap, h1, h2, h3, h4, h5, h6, h7⟩ := h.form encP_len hn
  exact ⟨g, cap, h1, h2, h3, h4, h5, fun k hl => ⟨by simpa using h6 k hl 0 _ rfl, h6 k hl 1 _ rfl, h6 k hl 2 _ rfl, h6 k hl 3 _ rfl⟩, h7⟩
theorem lay_le (q : RP) (l : List UInt8) (B : Nat) (hl : l.length ≤ B) (hq : q.at' + q.b.length ≤ B) : (q.on l).length ≤ B := by
  unfold RP.on
  split
  · rw [List.length_take]; omega
  · rw [layB_length]; omega
end
/-- No file's bytes are many. -/
def RD.Short (s : RD) : Prop := ∀ f ∈ s.files, f.now.length ≤ 1099511627776
theorem short_made {s : RD} (h : s.Short) (nm : ByteArray) : (s.made nm).Short := by
  unfold RD.made
  split
  · exact h
  · intro f hf
    rcases mem_putAt hf with hf | rfl
    · exact h f hf
    · simp
theorem short_wait {s : RD} (h : s.Short) (q : RP) (hq : q.at' + q.b.length ≤ 1099511627776) : (waitOne s q).Short := by
  intro f hf
  obtain ⟨x, hx, rfl⟩ := List.mem_map.1 hf
  have hx2 := short_made h q.name x hx
  split
  · exact lay_le q x.now _ hx2 hq
  · exact hx2
theorem wait_len (s : RD) (q : RP) : (waitOne s q).files.length ≤ s.files.length + 1 := by
  unfold waitOne RD.upN RD.made
  split
  · simp
  · simp only [List.length_map, length_putAt]; omega

theorem wait_fold_len (l : List RP) (s : RD) : (l.foldl waitOne s).files.length ≤ s.files.length + l.length := by
  induction l generalizing s with
  | nil => simp
  | cons q l ih =>
    have h1 := ih (waitOne s q)
    have h2 := wait_len s q
    rw [List.foldl_cons, List.length_cons]
    omega
theorem short_fold (l : List RP) (s : RD) (h : s.Short) (hq : ∀ q ∈ l, q.at' + q.b.length ≤ 1099511627776) : (l.foldl waitOne s).Short := by
  induction l generalizing s with
  | nil => exact h
  | cons q l ih => exact ih _ (short_wait h q (hq q List.mem_cons_self)) fun x hx => hq x (List.mem_cons_of_mem _ hx)

/-- Pieces wait. -/
def WaitAt (F : Nat → Prop) (p : Nat) (L : LMem) (prs : List PR) (w : World) (e : Ending) (w' : World) : Prop :=
  e = .returned (.tuple #[]) ∧ (∃ L', DiskM w' (Gr F w w') p L' ∧ L'.st = { ((prs.map PR.toP).foldl waitOne L.st) with pend := L.st.pend ++ prs.map PR.toP }) ∧ Only F w w'
/-- On the way. -/
structure WaitR (F : Nat → Prop) (p : Nat) (L : LMem) (prs : List PR) (w wr : World) (k : Nat) (L' : LMem) : Prop where
  mem : DiskM wr (Gr F w wr) p L'
  st : L'.st = ((prs.map PR.toP).take k).foldl waitOne L.st
  pr : L'.pr = L.pr
  only : Only F w wr
  guests : ∀ q ∈ prs, PB wr (Gr F w wr) q
  own : ∀ x ∈ L'.fr, ∀ k, x.Own k → (∃ y ∈ L.fr, y.Own k) ∨ w.heap.size ≤ k

set_option maxRecDepth 100000 in
set_option maxHeartbeats 4000000 in
theorem lwait_any (prs : List PR) (v : Value) (F : Nat → Prop) (p : Nat) (L : LMem) (w : World) (h : DiskM w F p L) (hF : ∀ k, F k → k < w.heap.size) (hr : w.ownsRow 0 88 4 v prs.length (flat encP prs)) (hA : ∀ k, v.ownBlock = some k → ¬ F k)
    (hp : ∀ q ∈ prs, PB w F q) (hc : ∀ q ∈ prs, ∀ k, q.bv.ownBlock = some k → ∀ f ∈ L.fr, ¬ f.Own k) (hn : ∀ q ∈ prs, q.name.size ≤ 9223372036854775807) (hq : ∀ q ∈ prs, q.at' + q.b.length ≤ 1099511627776) (hs : L.st.Short) (hlen : L.fr.length + prs.length ≤ 549755813888) (hpl : L.pr.length + prs.length ≤ 549755813888) :
    Calls Try.prog 45 #[.pointer (some ⟨p, 0, none⟩), v] w fun e w' => WaitAt F p L prs w e w' := by
  obtain ⟨i0, hi0, hz0, hz1, hz2⟩ := info_parts lpinfo
  obtain ⟨Av, cv, rfl⟩ := own_slice hr
  have HRow : Hid (Row w (fun k => (Value.slice Av prs.length cv).ownBlock = some k) 88 4 encP (.slice Av prs.length cv) prs) := Lib.hid ⟨hr, fun k hk => hk⟩
  have HP := Lib.hid hp
  have HC := Lib.hid hc
  have HNm := Lib.hid hn
  have HQ := Lib.hid hq
  have HA := Lib.hid hA
  have HS := Lib.hid hs
  have HF := Lib.hid hF
  have HD := Lib.hid h
  have hp0 : p < w.heap.size := h.blk.lt
  have HStart : Hid (WaitR F p L prs w w 0 L) := Lib.hid ⟨h.mono fun k hk => .inl hk, rfl, rfl, Only.refl _ _, fun q hq => (hp q hq).mono fun k hk => .inl hk, fun x hx k hk => .inl ⟨x, hx, hk⟩⟩
  clear hp hc hn hq hA hs h hr hF
  go_enter Try.func45, Try.ntmps45
  go_wp2
  go_loopw [9] (fun s9 wr => ∃ (k : Nat) (L' : LMem), s9 = .int .i64 (k : Int) ∧ k ≤ prs.length ∧ Hid (WaitR F p L prs w wr k L')) (fun s9 _ => prs.length - (intOf s9).toNat)
  case atStart => exact ⟨0, L, rfl, Nat.zero_le _, HStart⟩
  case round =>
    obtain ⟨k, L', rfl, hk, HR⟩ := hrel
    by_cases hlt : k < prs.length
    · have hi : (k : Int) < (prs.length : Int) := by omega
      have hrow := HRow.out.only HR.out.only fun k hk => HA.out k hk
      have hpos : 0 < prs.length := by omega
      obtain ⟨g, cap, hv2, -, hgw, -, -, hcell, -⟩ := lpr_cells hrow hpos
      obtain ⟨rfl, rfl⟩ : Av = some ⟨g, 0, none⟩ ∧ cv = cap := by simpa using hv2
      obtain ⟨x0, x1, x2, x3⟩ := hcell k hlt
      have hqm := List.getElem_mem hlt
      have HN1 := HNm.out _ hqm
      obtain ⟨Aq, cq, hbv⟩ := (HP.out _ hqm).value
      rw [hbv] at x2
      have HBv := Lib.hid hbv
      have HQm := Lib.hid hqm
      have HTake : Hid (((prs.map PR.toP).take (k + 1)).foldl waitOne L.st = waitOne (((prs.map PR.toP).take k).foldl waitOne L.st) prs[k].toP) := Lib.hid (by
        rw [List.take_succ_eq_append_getElem (by simpa using hlt), List.foldl_append]
        simp)
      clear hbv hqm hcell hv2 hrow hpos
      generalize prs[k] = q at *
      have hfl : L'.fr.length ≤ L.fr.length + k := by
        have h1 := HR.out.st
        have h2 := congrArg (fun s => s.files.length) h1
        have h3 := wait_fold_len ((prs.map PR.toP).take k) L.st
        simp only [LMem.st, List.length_map, List.length_take] at h2 h3
        omega
      have hshort : L'.st.Short := by
        rw [HR.out.st]
        exact short_fold _ L.st HS.out fun q hq => by
          obtain ⟨q', hq', rfl⟩ := List.mem_map.1 (List.mem_of_mem_take hq)
          exact HQ.out q' hq'
      have HSh := Lib.hid hshort
      have HMade := Lib.hid (lmade_any q.name (Gr F w wr) p L' (wr.alloc (.cells #[.string q.name, .int .i64 (q.at' : Int), .slice Aq q.b.length cq, .bool q.cut] 88)) (HR.out.mem.below ((Below.refl _ _).alloc (Nat.le_refl _) _)) HN1 (by omega))
      have hGlt : ∀ k, Gr F w wr k → k < wr.heap.size := fun k hk => hk.elim (fun h => Nat.lt_of_lt_of_le (HF.out k h) HR.out.only.size) fun h => h.2
      have HGlt := Lib.hid hGlt
      clear hfl hshort hGlt
      go_upto_region 4 with (go_at_call 41; refine HMade.out.mono ?_; rintro e w2 ⟨L2, f, rfl, hd2, hst2, hg2, ho2, hpr2, hwv2, hk82, hown2⟩)
      have hbox : Blk w2 wr.heap.size 88 #[.string q.name, .int .i64 (q.at' : Int), .slice Aq q.b.length cq, .bool q.cut] := (Blk.new wr _ _).only ho2 fun e => Nat.lt_irrefl _ (HGlt.out _ e)
      have y0 := hbox.cell 0
      have y1 := hbox.cell 1
      have y2 := hbox.cell 2
      have y3 := hbox.cell 3
      simp only [List.getElem?_toArray, List.getElem?_cons_succ, List.getElem?_cons_zero] at y0 y1 y2 y3
      have hfm := (getF_some hg2).1
      have hfn := (getF_some hg2).2
      have hff := hd2.file f hfm
      obtain ⟨A, c, hnv, -, -, -⟩ := hff.now.value
      have d0 := hff.cells.1
      rw [hnv] at d0
      have hw2 : wr.heap.size ≤ w2.heap.size := by have := ho2.size; simp at this; omega
      have hg8 : ∀ x ∈ prs, PB w2 (Gr F w w2) x := fun x hx => ((HR.out.guests x hx).same hw2 fun k hk => by
        have h1 := ((HR.out.guests x hx).own hk).1
        have h2 : Kind (wr.alloc (.cells #[.string q.name, .int .i64 (q.at' : Int), .slice Aq q.b.length cq, .bool q.cut] 88)) 5 k := h1.only ((Only.refl (fun _ => False) wr).alloc _) id
        exact (hk82 k h2).trans (Below.heap_alloc wr _ k h1.lt)).mono fun k hk => hk.elim .inl fun h => .inr ⟨h.1, by omega⟩
      have hownw : ∀ x ∈ L2.fr, ∀ k, x.Own k → (∃ y ∈ L.fr, y.Own k) ∨ w.heap.size ≤ k := fun x hx k hk => by
        obtain ⟨y, hy, hyk⟩ := hown2 x hx k hk
        exact HR.out.own y hy k hyk
      have hclr : ∀ x ∈ prs, ∀ k, x.bv.ownBlock = some k → ∀ y ∈ L2.fr, ¬ y.Own k := fun x hx k hk y hy e => by
        have h1 := ((HP.out x hx).own hk).1.lt
        rcases hownw y hy k e with ⟨z, hz, hzk⟩ | h2
        · exact HC.out x hx k hk z hz hzk
        · omega
      have hsh2 : L2.st.Short := by
        rw [hst2]
        exact short_made HSh.out _
      have HOn : Hid (Calls Try.prog 48 #[.agg #[.string q.name, .int .i64 (q.at' : Int), .slice Aq q.b.length cq, .bool q.cut], .slice A f.now.length c] w2.drew fun e w' => OnAt (.slice A f.now.length c) (q.toP.on f.now) w2 e w') := Lib.hid (by
        have h1 := on_any (w := w2.drew) q hfm (hd2.only (Only.refl (fun _ => False) w2).drew fun _ _ => id) ((hg8 q HQm.out).same (w' := w2.drew) (Nat.le_refl _) fun _ _ => rfl) (fun k hk => hclr q HQm.out k hk f hfm) (by
          have := hsh2 f.toF (by simpa [LMem.st] using ⟨f, hfm, rfl⟩)
          exact this) (HQ.out q HQm.out)
        rw [HBv.out, hnv] at h1
        exact h1.mono fun e w' ⟨v', h2, h3, h4, h5⟩ => ⟨v', h2, h3, grown_drew h4, h5⟩)
      have HFin : Hid (∀ w4 A4 c4, w4.ownsRow 0 5 1 (.slice A4 (q.toP.on f.now).length c4) (q.toP.on f.now).length (bv (q.toP.on f.now)) → w2.grownBy w4 (Value.slice A f.now.length c).ownBlock → (∀ j, (Value.slice A4 (q.toP.on f.now).length c4).ownBlock = some j → (Value.slice A f.now.length c).ownBlock = some j ∨ w2.heap.size ≤ j) →
          ∃ L5, WaitR F p L prs w (w4.setCell ⟨f.g, 0, none⟩ (.slice A4 (q.toP.on f.now).length c4)) (k + 1) L5) := Lib.hid (fun w4 A4 c4 ho4 hg4 hat4 => by
        rw [← hnv] at hg4 hat4
        have h1 := hd2.onNow hfm (q.toP.on f.now) (.slice A4 (q.toP.on f.now).length c4) ho4 hg4 hat4 (fun x => { x with now := q.toP.on x.now }) rfl
        have hsz : (w4.setCell ⟨f.g, 0, none⟩ (.slice A4 (q.toP.on f.now).length c4)).heap.size = w4.heap.size := by simp [World.setCell]
        have ho5 : Only (Gr F w wr) wr (w4.setCell ⟨f.g, 0, none⟩ (.slice A4 (q.toP.on f.now).length c4)) := (((Only.refl (fun _ => False) wr).alloc _).mono fun _ _ h => h.elim).trans (ho2.then_ (h1.2.1.mono fun k _ hk => hk)) fun j _ hj => hj
        refine ⟨_, h1.1.mono fun k hk => ?_, ?_, (hpr2.trans HR.out.pr), HR.out.only.then_ ho5, fun x hx => ?_, fun x hx k hk => ?_⟩
        · have hs1 := HR.out.only.size
          have hs4 := hg4.size
          rcases hk with ((hk | hk) | hk) | hk
          · exact .inl hk
          · exact .inr ⟨hk.1, by rw [hsz]; omega⟩
          · exact .inr ⟨by simp at hk; omega, by rw [hsz]; omega⟩
          · exact .inr ⟨by omega, hk.2⟩
        · rw [h1.2.2, HTake.out, ← HR.out.st, hfn, hst2]
          rfl
        · exact ((hg8 x hx).same (by rw [hsz]; exact hg4.size) fun k hk => by
            have h2 := ((hg8 x hx).own hk).1
            have h3 : ¬ f.Own k := hclr x hx k hk f hfm
            have h4 : w4.heap[k]? = w2.heap[k]? := hg4.block k h2.lt fun e => h3 (.inl e.symm)
            exact (Below.heap_setCell w4 _ _ k (fun e => h2.ne hff.kind (by decide) e)).trans h4).mono fun k hk => hk.elim .inl fun h => .inr ⟨h.1, by rw [hsz]; have := hg4.size; omega⟩
        · rcases upd_mem hx with rfl | ⟨hx, -⟩
          · rcases hk with hk | hk
            · rcases hat4 k hk with h2 | h2
              · exact hownw f hfm k (.inl h2)
              · exact .inr (by have := HR.out.only.size; omega)
            · exact hownw f hfm k (.inr hk)
          · exact hownw x hx k hk)
      have hgl : f.g < w2.heap.size := hff.blk.lt
      have HFz : Hid (∀ w4, w2.grownBy w4 (Value.slice A f.now.length c).ownBlock → w4.cell? ⟨f.g, 0, none⟩ = some (.slice A f.now.length c) ∧ w4.frozen? ⟨f.g, 0, none⟩ = false) := Lib.hid (fun w4 hg4 => by
        have hne : some f.g ≠ (Value.slice A f.now.length c).ownBlock := fun e => (hff.own (.inl (by rw [hnv]; exact e.symm))).1.ne hff.kind (by decide) rfl
        have hb := hff.blk.grown hg4 hne
        exact ⟨by rw [hb.cell]; show some f.nv = _; rw [hnv], hb.frozen 0⟩)
      clear hbox hd2 hst2 hg2 ho2 hpr2 hwv2 hfm hfn hff hnv hk82 hown2 hg8 hclr hsh2
      generalize f.now = now at *
      generalize f.g = fg at *
      generalize q.toP.on now = now' at *
      go_region_with (first
        | (go_at_call 48; refine HOn.out.mono ?_; rintro e w4 ⟨v4, rfl, ho4, hg4, hat4⟩; obtain ⟨z1, z2⟩ := HFz.out w4 hg4; obtain ⟨A4, c4, rfl⟩ := own_slice ho4; have HE4 := Lib.hid (HFin.out w4 A4 c4 ho4 hg4 hat4); clear ho4 hg4 hat4))
      all_goals
        go_wp2_with fail
        go_roundw
        case rel =>
          obtain ⟨L5, h5⟩ := HE4.out
          exact ⟨k + 1, L5, by go_num, by omega, Lib.hid h5⟩
        case measure => first | omega | (simp [intOf]; omega)
    · obtain rfl : k = prs.length := by omega
      have hrow := HRow.out.only HR.out.only fun k hk => HA.out k hk
      have HRds := Lib.hid hrow.reads
      obtain ⟨A6, c6, hv6, hlc6, hcm6, -⟩ := HR.out.mem.row.value
      have d2 := HR.out.mem.cells.2.2.1
      rw [hv6] at d2
      have hps := HR.out.mem.row.own
      rw [hv6] at hps
      have HPs := Lib.hid hps
      have HV6 := Lib.hid hv6
      have hpr := HR.out.pr
      have hn6 : L'.pr.length + prs.length ≤ 549755813888 := by rw [hpr]; exact hpl
      have hp5 : p < wr.heap.size := HR.out.mem.blk.lt
      have HOne : Hid (∀ u ∈ flat encP prs, u.oneCell' = true) := Lib.hid (flat_cells' prs fun q hq => encP_one q (HP.out q hq).cell)
      have HFin : Hid (∀ v5 w5, w5.ownsRow 0 88 4 v5 (L'.pr.length + prs.length) (flat encP L'.pr ++ flat encP prs) → wr.grownBy w5 (Value.slice A6 L'.pr.length c6).ownBlock → (v5.ownBlock = (Value.slice A6 L'.pr.length c6).ownBlock ∨ v5.ownBlock = some wr.heap.size) → WaitAt F p L prs w (.returned (.tuple #[])) (w5.setCell ⟨p, 2, none⟩ v5)) := Lib.hid (fun v5 w5 ho5 hg5 hat5 => by
        rw [← HV6.out] at hg5 hat5
        have h1 := HR.out.mem.push hg5 ho5 hat5 HR.out.guests fun q hq k hk x hx e => by
          have h1 := ((HP.out q hq).own hk).1.lt
          rcases HR.out.own x hx k e with ⟨z, hz, hzk⟩ | h2
          · exact HC.out q hq k hk z hz hzk
          · omega
        refine ⟨rfl, ⟨_, h1.1.mono fun k hk => gr_two HR.out.only h1.2 hk, ?_⟩, HR.out.only.then_ h1.2⟩
        have hst := HR.out.st
        rw [List.take_of_length_le (by simp)] at hst
        rw [← hst]
        show (⟨_, _, _, _, _, _, (L'.pr ++ prs).map PR.toP⟩ : RD) = { L'.st with pend := L.pr.map PR.toP ++ prs.map PR.toP }
        rw [List.map_append, HR.out.pr]
        rfl)
      have HCl : Hid (∀ w5, wr.grownBy w5 (Value.slice A6 L'.pr.length c6).ownBlock → w5.cell? ⟨p, 2, none⟩ = some (.slice A6 L'.pr.length c6) ∧ w5.frozen? ⟨p, 2, none⟩ = false) := Lib.hid (fun w5 hg5 => by
        have hb := HR.out.mem.blk.grown hg5 fun e => (HR.out.mem.row.kind (by rw [HV6.out]; exact e.symm)).ne HR.out.mem.kind (by decide) rfl
        exact ⟨by rw [hb.cell]; show some L'.wv = _; rw [HV6.out], hb.frozen 2⟩)
      clear hrow hv6 hps hpr hk hlt
      generalize L'.pr.length = n6 at *
      go_wp2_with (at_builtin; refine wpList_append_any _ rfl (.tmp 31) (.tmp 32) 64 rfl 0 88 i0 (.agg #[.string ByteArray.empty, .int .i64 0, .slice none 0 0, .bool false]) 4 56 Try.underlying64 hi0 hz0 hz1 hz2 rfl (by decide) (.slice A6 n6 c6) n6 _ rfl HPs.out wr.heap.size Av prs.length cv _ rfl HRds.out HOne.out (by unfold maxLen; omega) (by omega) (Nat.zero_le _) ?_; intro v5 w5 ho5 hg5 hat5; obtain ⟨z1, z2⟩ := HCl.out w5 hg5; have HE := Lib.hid (HFin.out v5 w5 ho5 hg5 hat5); obtain ⟨A5, c5, rfl⟩ := own_slice ho5; clear ho5 hg5 hat5)
      go_end0
      exact HE.out
end Go.Proofs.Ytoihkanneiknkaa
