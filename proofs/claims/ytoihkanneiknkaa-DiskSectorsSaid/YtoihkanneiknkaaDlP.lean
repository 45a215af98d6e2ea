/- Contract of the landed disk's Sync. Conditions: the disk is in memory as named; its numbers are within bounds; what is seen is what is safe with all that waits. -/
import Derived.Test.YtoihkanneiknkaaDlO
namespace Go.Proofs.Ytoihkanneiknkaa
open Go.RowKit Go.Maps
attribute [local go_sem ↓] Go.wp_at_zero Go.wp_at_succ

section
variable {w w' : World} {F G : Nat → Prop} {p : Nat} {L : LMem} {f f' : GF}
theorem on_gen (q : PR) (v : Value) (l : List UInt8) (hown : w.ownsRow 0 5 1 v l.length (bv l)) (hq : PB w G q) (hc : ∀ k, q.bv.ownBlock = some k → v.ownBlock ≠ some k) (hb : l.length ≤ 1099511627776) (hn : q.at' + q.b.length ≤ 1099511627776) :
    Calls Try.prog 48 #[.agg #[.string q.name, .int .i64 (q.at' : Int), q.bv, .bool q.cut], v] w fun e w' => OnAt v (q.toP.on l) w e w' := by
  obtain ⟨A, c, rfl⟩ := own_slice hown
  obtain ⟨nm, a, qv, b, cut⟩ := q
  obtain ⟨Ak, ck, e, hck, hr, -⟩ := hq
  have e2 : qv = .slice Ak b.length ck := e
  clear e
  subst e2
  have hck : b.length ≤ ck := hck
  have hr : Reads w w.heap.size 1 Ak b.length (bv b) := hr
  have hn : a + b.length ≤ 1099511627776 := hn
  rcases cut with _ | _
  · exact on_write nm a b Ak ck l A c w hown hr hck (fun ad had e => hc ad.block (by rw [had]; rfl) e) (by omega) (by omega)
  · exact on_cut nm a (.slice Ak b.length ck) l A c w hown (by omega) (by omega)
/-- A file's safe bytes are what a piece has made of them. -/
theorem DiskM.onSafe (h : DiskM w F p L) (hf : f ∈ L.fr) (l' : List UInt8) (v' : Value) {w1 : World} (ho : w1.ownsRow 0 5 1 v' l'.length (bv l')) (hg : w.grownBy w1 f.sv.ownBlock) (hat : ∀ j, v'.ownBlock = some j → f.sv.ownBlock = some j ∨ w.heap.size ≤ j) (g : RF → RF) (hgf : (⟨f.name, f.now, l', f.sure⟩ : RF) = g f.toF) :
    DiskM (w1.setCell ⟨f.g, 1, none⟩ v') (Gr F w (w1.setCell ⟨f.g, 1, none⟩ v')) p (L.upd { f with sv := v', safe := l' }) ∧ Only F w (w1.setCell ⟨f.g, 1, none⟩ v') ∧ (L.upd { f with sv := v', safe := l' }).st = L.st.upN f.name g := by
  have hff := h.file f hf
  have ho1 : Only (fun k => f.sv.ownBlock = some k) w w1 := (Only.refl _ w).grown hg fun k hk => .inl hk
  have ho2 : Only (fun k => k = f.g ∨ f.Own k) w (w1.setCell ⟨f.g, 1, none⟩ v') := (ho1.mono fun k _ hk => .inr (.inr hk)).setCell (p := ⟨f.g, 1, none⟩) (.inl (.inl rfl)) v'
  have ho3 : Only (fun k => f.sv.ownBlock = some k ∨ k = f.g) w (w1.setCell ⟨f.g, 1, none⟩ v') := (ho1.mono fun k _ hk => .inl hk).setCell (p := ⟨f.g, 1, none⟩) (.inl (.inr rfl)) v'
  have hgn : ¬ f.sv.ownBlock = some f.g := fun e => (hff.own (.inr e)).1.ne hff.kind (by decide) rfl
  have hsz : (w1.setCell ⟨f.g, 1, none⟩ v').heap.size = w1.heap.size := by simp [World.setCell]
  have hog : Only (fun k => k = f.g) w1 (w1.setCell ⟨f.g, 1, none⟩ v') := (Only.refl (fun k => k = f.g) w1).setCell (p := ⟨f.g, 1, none⟩) (.inl rfl) v'
  have hvg : ∀ k, v'.ownBlock = some k → ¬ k = f.g := fun k hk e => by
    rcases hat k hk with h1 | h1
    · exact hgn (e ▸ h1)
    · have := hff.blk.lt
      omega
  have hlast : ∀ k, f.nv.ownBlock = some k → v'.ownBlock ≠ some k := fun k e hk => by
    rcases hat k hk with h1 | h1
    · exact hff.two k e h1
    · have := (hff.own (.inl e)).1.lt
      omega
  refine ⟨h.setFile hf _ rfl rfl ho2 ?_ ?_ ⟨own_only ho hog hvg, fun k hk => ?_⟩ hlast fun k hk => ?_, ho2.mono fun k _ hk => hk.elim (fun e => e ▸ hff.fp) fun e => (hff.own e).2, ?_⟩
  · have := (hff.blk.only ho1 hgn).set_ 1 v'
    simpa [GF.blkOf] using this
  · exact (hff.now.off ho3 fun k hk e => by
      rcases e with e | e
      · exact hff.two k hk e
      · exact (hff.own (.inl hk)).1.ne hff.kind (by decide) e).mono fun k hk => .inl hk
  · have := (ho.lt k hk).2
    rcases hat k hk with h1 | h1
    · exact .inl (hff.safe.2 k h1)
    · exact .inr ⟨h1, by rw [hsz]; exact this⟩
  · rcases hk with hk | hk
    · exact .inl (.inl hk)
    · rcases hat k hk with h1 | h1
      · exact .inl (.inr h1)
      · exact .inr h1
  · exact upd_st g h.srt hf rfl hgf
/-- A file has been safe. -/
theorem DiskM.sure (h : DiskM w F p L) (hf : f ∈ L.fr) (b : Bool) :
    DiskM (w.setCell ⟨f.g, 2, none⟩ (.bool b)) (Gr F w (w.setCell ⟨f.g, 2, none⟩ (.bool b))) p (L.upd { f with sure := b }) ∧ Only F w (w.setCell ⟨f.g, 2, none⟩ (.bool b)) ∧ (L.upd { f with sure := b }).st = L.st.upN f.name fun x => { x with sure := b } := by
  have hff := h.file f hf
  have hog : Only (fun k => k = f.g) w (w.setCell ⟨f.g, 2, none⟩ (.bool b)) := (Only.refl (fun k => k = f.g) w).setCell (p := ⟨f.g, 2, none⟩) (.inl rfl) _
  have hno : ∀ k, f.Own k → ¬ k = f.g := fun k hk e => (hff.own hk).1.ne hff.kind (by decide) e
  refine ⟨h.setFile hf _ rfl rfl (hog.mono fun k _ hk => .inl hk) ?_ ((hff.now.off hog fun k hk => hno k (.inl hk)).mono fun k hk => .inl hk) ((hff.safe.off hog fun k hk => hno k (.inr hk)).mono fun k hk => .inl hk) hff.two fun k hk => .inl hk, hog.mono fun k _ hk => hk ▸ hff.fp, upd_st _ h.srt hf rfl rfl⟩
  have := hff.blk.set_ 2 (.bool b)
  simpa [GF.blkOf] using this
theorem getF_upd (hs : (L.fr.map (·.name)).Pairwise bLt) (hf : f ∈ L.fr) (hn : f'.name = f.name) : getF (L.upd f').fr f.name = some f' := by
  have h1 : f' ∈ (L.upd f').fr := List.mem_map.2 ⟨f, hf, by rw [if_pos hn.symm]⟩
  rcases h2 : getF (L.upd f').fr f.name with _ | x
  · exact absurd hn (getF_none h2 f' h1)
  · have h3 := getF_some h2
    have := name_inj (l := (L.upd f').fr) (by rw [upd_names]; exact hs) h3.1 h1 (h3.2.trans hn.symm)
    rw [this]
end
/-- What is seen is what is safe with all that waits. -/
def RD.Seen (s : RD) : Prop := ∀ f ∈ s.files, f.now = onAll (s.pend.filter fun q => decide (q.name = f.name)) f.safe
/-- On the way. -/
structure SyncR (F : Nat → Prop) (p : Nat) (L : LMem) (nm : ByteArray) (prs : List PR) (w wr : World) (k : Nat) (g : Nat) (L' : LMem) : Prop where
  mem : DiskM wr (Gr F w wr) p L'
  st : L'.st = L.st.upN nm fun f => { f with safe := onAll ((prs.map PR.toP).take k) f.safe }
  only : Only F w wr
  guests : ∀ q ∈ prs, PB wr (Gr F w wr) q
  own : ∀ x ∈ L'.fr, ∀ k, x.Own k → (∃ y ∈ L.fr, y.Own k) ∨ w.heap.size ≤ k
  file : ∃ f, getF L'.fr nm = some f ∧ f.g = g
theorem onAll_le (l : List RP) (b : List UInt8) (B : Nat) (hb : b.length ≤ B) (hq : ∀ q ∈ l, q.at' + q.b.length ≤ B) : (onAll l b).length ≤ B := by
  induction l generalizing b with
  | nil => exact hb
  | cons q l ih => exact ih _ (lay_le q b B hb (hq q List.mem_cons_self)) fun x hx => hq x (List.mem_cons_of_mem _ hx)
theorem settled_st (L : LMem) (nm : ByteArray) (wv' : Value) : ({ L with wv := wv', pr := L.pr.filter fun q => !isOf nm q } : LMem).st = L.st.settled nm := by
  simp only [LMem.st, RD.settled, List.filter_map]
  congr 2
  refine List.filter_congr fun q _ => ?_
  by_cases e : q.name = nm <;> simp [isOf, PR.toP, e]
theorem filter_of (L : LMem) (nm : ByteArray) : (L.pr.filter (isOf nm)).map PR.toP = L.st.pend.filter fun q => decide (q.name = nm) := by
  simp only [LMem.st, List.filter_map]
  rfl
theorem sync_end (s : RD) (nm : ByteArray) (i : Nat) (hi : s.find nm = some i) (hs : s.names.Pairwise bLt) (hse : s.Seen) :
    (((s.settled nm).upN nm fun f => { f with safe := onAll (s.pend.filter fun q => decide (q.name = nm)) f.safe }).upN nm fun f => { f with sure := true }) = (s.setF i fun f => { f with safe := f.now, sure := true }).settled nm := by
  have h0 := upN_upN (s.settled nm) nm (fun f => { f with safe := onAll (s.pend.filter fun q => decide (q.name = nm)) f.safe }) (fun f => { f with sure := true }) fun _ => rfl
  rw [← upN_setF s nm _ hs hi, h0]
  have h1 : (s.settled nm).upN nm (fun f => { f with safe := onAll (s.pend.filter fun q => decide (q.name = nm)) f.safe, sure := true }) = (s.upN nm fun f => { f with safe := f.now, sure := true }).settled nm := by
    have h2 := upN_congr s nm (fun f => { f with safe := onAll (s.pend.filter fun q => decide (q.name = nm)) f.safe, sure := true }) (fun f => { f with safe := f.now, sure := true }) fun f hf hfn => by
      have := hse f hf
      rw [hfn] at this
      rw [← this]
    rw [← h2]
    rfl
  exact h1

set_option maxRecDepth 100000 in
set_option maxHeartbeats 4000000 in
theorem lsync_any (nm : ByteArray) (F : Nat → Prop) (p : Nat) (L : LMem) (w : World) (h : DiskM w F p L) (hf : L.Fine) (hpl : L.pr.length ≤ 1000000) (hn : nm.size ≤ 9223372036854775807) (hse : L.st.Seen) (hsafe : ∀ f ∈ L.st.files, f.safe.length ≤ 1099511627776) (hq : ∀ q ∈ L.st.pend, q.at' + q.b.length ≤ 1099511627776) :
    Calls Try.prog 16 #[.pointer (some ⟨p, 0, none⟩), .string nm] w fun e w' => LOp F p (L.st.sync nm).1 (L.st.sync nm).2 w e w' := by
  have HT := Lib.hid (there_any nm F p L w h hn)
  have HD := Lib.hid h
  have HF := Lib.hid hf
  have HSe := Lib.hid hse
  have HSafe := Lib.hid hsafe
  have HQ := Lib.hid hq
  have HSm := Lib.hid (fun n => lop_same (n := n) h)
  clear h hse hsafe hq
  rcases thereN_cases L nm with ⟨h1, ⟨f, hg, h2⟩, h3, h4⟩ | ⟨h1, h2, hg, h3, h4⟩ | ⟨h1, h2, h3⟩ | ⟨h1, h2, h3, h4⟩
  all_goals rw [h1, h2] at HT
  · obtain ⟨i, hi, hie, hif⟩ := getF_find_some HD.out.srt hg
    have HW : Hid (L.st.sync nm = if L.st.stops = true then (L.st.off, 8) else ((L.st.ticked.setF i fun f => { f with safe := f.now, sure := true }).settled nm, 0)) := Lib.hid (by
      unfold RD.sync
      rw [if_neg (by rw [h3]; simp), if_neg (by rw [h4]; simp), hif])
    have HIf := Lib.hid hif
    have HG := Lib.hid hg
    have HChg := Lib.hid (lchange_any F p L w HD.out HF.out.chg HF.out.left)
    clear h1 h2 h3 h4 hg hi hie hif
    rcases hst : L.st.stops with _ | _
    · simp only [hst, Bool.false_eq_true, if_false] at HW HChg
      have HTick := Lib.hid (ltick_st L)
      rw [hst] at HTick
      simp only [Bool.false_eq_true, if_false] at HTick
      rw [HW.out]
      clear hst
      have HTk : Hid (∀ w2, DiskM w2 F p L.tick → Calls Try.prog 40 #[.pointer (some ⟨p, 0, none⟩), .string nm] w2 fun e w' => TakenAt (fun k => F k ∧ k < w2.heap.size) p L.tick nm w2 e w') := Lib.hid (fun w2 hd2 => ltaken_any nm _ p L.tick w2 hd2.old (by have := (ltick_fr L).2.1; rw [this]; omega))
      go_enter Try.func16, Try.ntmps16
      go_wp2_with (first | (go_at_call 47; refine HT.out.mono ?_; rintro e w' ⟨rfl, rfl⟩) | (go_at_call 44; refine HChg.out.mono ?_; rintro e w2 ⟨rfl, hd2, ho2⟩; have HD2 := Lib.hid hd2; have HO2 := Lib.hid ho2; clear hd2 ho2) | (go_at_call 40; refine (HTk.out _ HD2.out).mono ?_; rintro e w3 ⟨v3, wv3, rfl, hv3, hd3, ho3, hk83⟩; have HV3 := Lib.hid hv3; have HD3 := Lib.hid hd3; have HO3 := Lib.hid ho3; have HK3 := Lib.hid hk83; obtain ⟨Av, cv, rfl⟩ := own_slice hv3; clear hv3 hd3 ho3 hk83))
      obtain ⟨fil, hfil⟩ : ∃ l, l = L.pr.filter (isOf nm) := ⟨_, rfl⟩
      obtain ⟨L3, hL3⟩ : ∃ l, l = ({ L.tick with wv := wv3, pr := L.tick.pr.filter fun q => !isOf nm q } : LMem) := ⟨_, rfl⟩
      have htk := ltick_fr L
      have hv := HV3.out
      have hd3 := HD3.out
      rw [htk.2.1, ← hfil] at hv
      rw [← hL3] at hd3
      have hst3 : L3.st = L.st.ticked.settled nm := by rw [hL3, settled_st, HTick.out]
      have hfr3 : L3.fr = L.fr := by rw [hL3]; exact htk.1
      have hs2 := HO2.out.size
      have hs3 := HO3.out.size
      rw [show (L.tick.pr.filter (isOf nm)).length = fil.length from by rw [htk.2.1, ← hfil]] at *
      have HRow : Hid (Row w3 (fun k => (Value.slice Av fil.length cv).ownBlock = some k) 88 4 encP (.slice Av fil.length cv) fil) := Lib.hid ⟨own_base hv (Nat.zero_le _), fun k hk => hk⟩
      have HA : Hid (∀ k, (Value.slice Av fil.length cv).ownBlock = some k → ¬ (F k ∧ k < w2.heap.size)) := Lib.hid (fun k hk e => by have := (hv.lt k hk).1; omega)
      have hpr2 : ∀ q ∈ fil, q ∈ L.tick.pr := fun q hq => by rw [htk.2.1]; rw [hfil] at hq; exact (List.mem_filter.1 hq).1
      have hp2 : ∀ q ∈ fil, PB w3 (fun k => F k ∧ k < w2.heap.size) q := fun q hq => by
        have h1 := HD2.out.old.piece q (hpr2 q hq)
        exact h1.same hs3 fun k hk => HK3.out k (h1.own hk).1
      have HP := Lib.hid hp2
      have HC : Hid (∀ q ∈ fil, ∀ k, q.bv.ownBlock = some k → ∀ f ∈ L3.fr, ¬ f.Own k) := Lib.hid (fun q hq k hk f hf => by
        rw [hfr3, ← htk.1] at hf
        exact HD2.out.clear q (hpr2 q hq) k hk f hf)
      have HQ3 : Hid (∀ q ∈ fil, q.at' + q.b.length ≤ 1099511627776) := Lib.hid (fun q hq => HQ.out q.toP (List.mem_map.2 ⟨q, by have := hpr2 q hq; rw [htk.2.1] at this; exact this, rfl⟩))
      have HFM : Hid (fil.map PR.toP = L.st.pend.filter fun q => decide (q.name = nm)) := Lib.hid (by rw [hfil]; exact filter_of L nm)
      have hlen3 : fil.length ≤ 1000000 := by rw [hfil]; exact Nat.le_trans (List.length_filter_le _ _) hpl
      have HStart : Hid (SyncR (fun k => F k ∧ k < w2.heap.size) p L3 nm fil w3 w3 0 f.g L3) := Lib.hid ⟨hd3.mono fun k hk => .inl hk, by
        show L3.st = L3.st.upN nm fun f => f
        unfold RD.upN
        have e : (L3.st.files.map fun f => if f.name = nm then f else f) = L3.st.files := by
          rw [List.map_congr_left (g := id) fun x _ => by simp]
          simp
        rw [e], Only.refl _ _, fun q hq => (hp2 q hq).mono fun k hk => .inl hk, fun x hx k hk => .inl ⟨x, hx, hk⟩, ⟨f, by rw [hfr3]; exact HG.out, rfl⟩⟩
      have HSt3 := Lib.hid hst3
      have HFr3 := Lib.hid hfr3
      clear hfil hL3 hv hd3 hst3 hfr3 hpr2 hp2 htk HV3 HD3
      go_loopw [28] (fun s28 wr => ∃ (k : Nat) (L' : LMem), s28 = .int .i64 (k : Int) ∧ k ≤ fil.length ∧ Hid (SyncR (fun k => F k ∧ k < w2.heap.size) p L3 nm fil w3 wr k f.g L')) (fun s28 _ => fil.length - (intOf s28).toNat)
      case atStart => exact ⟨0, L3, rfl, Nat.zero_le _, HStart⟩
      case round =>
        obtain ⟨k, L', rfl, hk, HR⟩ := hrel
        obtain ⟨f', hgf', hgg⟩ := HR.out.file
        have hfm := (getF_some hgf').1
        have hfn := (getF_some hgf').2
        have hff := HR.out.mem.file f' hfm
        by_cases hlt : k < fil.length
        · have hi : (k : Int) < (fil.length : Int) := by omega
          have hpos : 0 < fil.length := by omega
          have hrow := HRow.out.only HR.out.only fun k hk => HA.out k hk
          obtain ⟨g, cap, hv2, -, hgw, -, -, hcell, -⟩ := lpr_cells hrow hpos
          obtain ⟨rfl, rfl⟩ : Av = some ⟨g, 0, none⟩ ∧ cv = cap := by simpa using hv2
          obtain ⟨x0, x1, x2, x3⟩ := hcell k hlt
          have hqm := List.getElem_mem hlt
          obtain ⟨Aq, cq, hbv⟩ := (HP.out _ hqm).value
          rw [hbv] at x2
          have HBv := Lib.hid hbv
          have HQm := Lib.hid hqm
          have HTake : Hid (∀ b, onAll ((fil.map PR.toP).take (k + 1)) b = fil[k].toP.on (onAll ((fil.map PR.toP).take k) b)) := Lib.hid (fun b => by
            unfold onAll
            rw [List.take_succ_eq_append_getElem (by simpa using hlt), List.foldl_append]
            simp)
          clear hbv hqm hcell hv2 hrow hpos
          generalize fil[k] = q at *
          obtain ⟨A, c, hsv, -, -, -⟩ := hff.safe.value
          have d1 := hff.cells.2.1
          rw [hsv] at d1
          rw [hgg] at d1
          have hgl : f.g < wr.heap.size := by rw [← hgg]; exact hff.blk.lt
          have hclr : ∀ j, q.bv.ownBlock = some j → ¬ f'.Own j := fun j hj e => by
            have h1 := ((HP.out q HQm.out).own hj).1.lt
            rcases HR.out.own f' hfm j e with ⟨y, hy, hyj⟩ | h2
            · exact HC.out q HQm.out j hj y hy hyj
            · omega
          have hbnd : f'.safe.length ≤ 1099511627776 := by
            have h1 : f'.toF ∈ L'.st.files := by simpa [LMem.st] using ⟨f', hfm, rfl⟩
            rw [HR.out.st] at h1
            obtain ⟨x, hx, hxe⟩ := List.mem_map.1 h1
            have hx2 : x ∈ L.st.files := by rw [HSt3.out] at hx; exact hx
            have h2 := HSafe.out x hx2
            have h3 : f'.safe = f'.toF.safe := rfl
            rw [h3, ← hxe]
            split
            · exact onAll_le _ _ _ h2 fun y hy => by
                obtain ⟨z, hz, rfl⟩ := List.mem_map.1 (List.mem_of_mem_take hy)
                exact HQ3.out z hz
            · exact h2
          have hBelB : Below wr.heap.size wr (wr.alloc (.cells #[.string q.name, .int .i64 (q.at' : Int), .slice Aq q.b.length cq, .bool q.cut] 88)) := (Below.refl _ _).alloc (Nat.le_refl _) _
          have hdB := HR.out.mem.below hBelB
          have hffB := hdB.file f' hfm
          have HOn : Hid (Calls Try.prog 48 #[.agg #[.string q.name, .int .i64 (q.at' : Int), .slice Aq q.b.length cq, .bool q.cut], .slice A f'.safe.length c] (wr.alloc (.cells #[.string q.name, .int .i64 (q.at' : Int), .slice Aq q.b.length cq, .bool q.cut] 88)).drew fun e w' => OnAt (.slice A f'.safe.length c) (q.toP.on f'.safe) (wr.alloc (.cells #[.string q.name, .int .i64 (q.at' : Int), .slice Aq q.b.length cq, .bool q.cut] 88)) e w') := Lib.hid (by
            have hpb : PB (wr.alloc (.cells #[.string q.name, .int .i64 (q.at' : Int), .slice Aq q.b.length cq, .bool q.cut] 88)).drew (Gr (fun k => F k ∧ k < w2.heap.size) w3 wr) q := (HR.out.guests q HQm.out).same (w' := (wr.alloc (.cells #[.string q.name, .int .i64 (q.at' : Int), .slice Aq q.b.length cq, .bool q.cut] 88)).drew) hBelB.size fun j hj => hBelB.block j ((HR.out.guests q HQm.out).own hj).1.lt
            have hown : (wr.alloc (.cells #[.string q.name, .int .i64 (q.at' : Int), .slice Aq q.b.length cq, .bool q.cut] 88)).drew.ownsRow 0 5 1 f'.sv f'.safe.length (bv f'.safe) := hffB.safe.1
            have h1 := on_gen (w := (wr.alloc (.cells #[.string q.name, .int .i64 (q.at' : Int), .slice Aq q.b.length cq, .bool q.cut] 88)).drew) q f'.sv f'.safe hown hpb (fun j hj e => hclr j hj (.inr e)) hbnd (HQ3.out q HQm.out)
            rw [HBv.out, hsv] at h1
            exact h1.mono fun e w' ⟨v', h2, h3, h4, h5⟩ => ⟨v', h2, h3, grown_drew h4, h5⟩)
          have HFin : Hid (∀ (w4 : World) A4 c4, w4.ownsRow 0 5 1 (.slice A4 (q.toP.on f'.safe).length c4) (q.toP.on f'.safe).length (bv (q.toP.on f'.safe)) → (wr.alloc (.cells #[.string q.name, .int .i64 (q.at' : Int), .slice Aq q.b.length cq, .bool q.cut] 88)).grownBy w4 (Value.slice A f'.safe.length c).ownBlock → (∀ j, (Value.slice A4 (q.toP.on f'.safe).length c4).ownBlock = some j → (Value.slice A f'.safe.length c).ownBlock = some j ∨ (wr.alloc (.cells #[.string q.name, .int .i64 (q.at' : Int), .slice Aq q.b.length cq, .bool q.cut] 88)).heap.size ≤ j) →
              ∃ L5, SyncR (fun k => F k ∧ k < w2.heap.size) p L3 nm fil w3 (w4.setCell ⟨f.g, 1, none⟩ (.slice A4 (q.toP.on f'.safe).length c4)) (k + 1) f.g L5) := Lib.hid (fun w4 A4 c4 ho4 hg4 hat4 => by
            rw [← hsv] at hg4 hat4
            rw [← hgg]
            have h1 := hdB.onSafe hfm (q.toP.on f'.safe) (.slice A4 (q.toP.on f'.safe).length c4) ho4 hg4 hat4 (fun x => { x with safe := q.toP.on x.safe }) rfl
            have hsz : (w4.setCell ⟨f'.g, 1, none⟩ (.slice A4 (q.toP.on f'.safe).length c4)).heap.size = w4.heap.size := by simp [World.setCell]
            have hsB := hBelB.size
            have hs4 := hg4.size
            have hsr := HR.out.only.size
            have ho5 : Only (Gr (fun k => F k ∧ k < w2.heap.size) w3 wr) wr (w4.setCell ⟨f'.g, 1, none⟩ (.slice A4 (q.toP.on f'.safe).length c4)) := (Only.of_below hBelB : Only (Gr (fun k => F k ∧ k < w2.heap.size) w3 wr) wr (wr.alloc (.cells #[.string q.name, .int .i64 (q.at' : Int), .slice Aq q.b.length cq, .bool q.cut] 88))).trans h1.2.1 fun j _ hj => hj
            refine ⟨_, h1.1.mono fun j hj => ?_, ?_, HR.out.only.then_ ho5, fun x hx => ?_, fun x hx j hj => ?_, ⟨{ f' with sv := .slice A4 (q.toP.on f'.safe).length c4, safe := q.toP.on f'.safe }, by rw [← hfn]; exact getF_upd (f' := { f' with sv := .slice A4 (q.toP.on f'.safe).length c4, safe := q.toP.on f'.safe }) HR.out.mem.srt hfm rfl, rfl⟩⟩
            · rcases hj with (hj | hj) | hj
              · exact .inl hj
              · exact .inr ⟨hj.1, by rw [hsz]; omega⟩
              · exact .inr ⟨by omega, hj.2⟩
            · have h2 := upN_upN L3.st nm (fun f => { f with safe := onAll ((fil.map PR.toP).take k) f.safe }) (fun x => { x with safe := q.toP.on x.safe }) fun _ => rfl
              rw [h1.2.2, hfn, HR.out.st, h2]
              exact upN_congr _ _ _ _ fun x _ _ => by rw [HTake.out]
            · have hx2 := ((HR.out.guests x hx).own (k := ·))
              exact ((HR.out.guests x hx).same (by rw [hsz]; omega) fun j hj => by
                have h2 := (hx2 j hj).1
                have h3 : ¬ f'.Own j := fun e => by
                  have h4 := ((HP.out x hx).own hj).1.lt
                  rcases HR.out.own f' hfm j e with ⟨y, hy, hyj⟩ | h5
                  · exact HC.out x hx j hj y hy hyj
                  · omega
                have h4 : w4.heap[j]? = (wr.alloc (.cells #[.string q.name, .int .i64 (q.at' : Int), .slice Aq q.b.length cq, .bool q.cut] 88)).heap[j]? := hg4.block j (Nat.lt_of_lt_of_le h2.lt hsB) fun e => h3 (.inr e.symm)
                exact (Below.heap_setCell w4 _ _ j (fun e => h2.ne hff.kind (by decide) e)).trans (h4.trans (hBelB.block j h2.lt))).mono fun j hj => hj.elim .inl fun h => .inr ⟨h.1, by rw [hsz]; omega⟩
            · rcases upd_mem hx with rfl | ⟨hx, -⟩
              · rcases hj with hj | hj
                · exact HR.out.own f' hfm j (.inl hj)
                · rcases hat4 j hj with h2 | h2
                  · exact HR.out.own f' hfm j (.inr h2)
                  · exact .inr (by omega)
              · exact HR.out.own x hx j hj)
          have HFz : Hid (∀ (w4 : World), (wr.alloc (.cells #[.string q.name, .int .i64 (q.at' : Int), .slice Aq q.b.length cq, .bool q.cut] 88)).grownBy w4 (Value.slice A f'.safe.length c).ownBlock → w4.cell? ⟨f.g, 1, none⟩ = some (.slice A f'.safe.length c) ∧ w4.frozen? ⟨f.g, 1, none⟩ = false) := Lib.hid (fun w4 hg4 => by
            have hne : some f'.g ≠ (Value.slice A f'.safe.length c).ownBlock := fun e => (hff.own (.inr (by rw [hsv]; exact e.symm))).1.ne hff.kind (by decide) rfl
            have hb := hffB.blk.grown hg4 hne
            rw [← hgg]
            exact ⟨by rw [hb.cell]; show some f'.sv = _; rw [hsv], hb.frozen 1⟩)
          clear hgf' hgg hfm hfn hff hsv hclr hBelB hdB hffB
          generalize f'.safe = sf at *
          generalize f.g = fg at *
          generalize q.toP.on sf = sf' at *
          go_upto_region 10 with fail
          go_region_with (first
            | (go_at_call 48; refine HOn.out.mono ?_; rintro e w4 ⟨v4, rfl, ho4, hg4, hat4⟩; obtain ⟨z1, z2⟩ := HFz.out w4 hg4; obtain ⟨A4, c4, rfl⟩ := own_slice ho4; have HE4 := Lib.hid (HFin.out w4 A4 c4 ho4 hg4 hat4); clear ho4 hg4 hat4))
          all_goals
            go_wp2_with fail
            go_roundw
            case rel =>
              obtain ⟨L5, h5⟩ := HE4.out
              exact ⟨k + 1, L5, by go_num, by omega, Lib.hid h5⟩
            case measure => first | omega | (simp [intOf]; omega)
        · obtain rfl : k = fil.length := by omega
          have d2 := hff.cells.2.2
          have fz2 := hff.blk.frozen 2
          rw [hgg] at d2 fz2
          have HEnd : Hid (LOp F p ((L.st.ticked.setF i fun f => { f with safe := f.now, sure := true }).settled nm) 0 w (.returned (.int .i64 ((0 : Nat) : Int))) (wr.setCell ⟨f.g, 2, none⟩ (.bool true))) := Lib.hid (by
            have h1 := HR.out.mem.sure hfm true
            rw [hgg] at h1
            have hsr := HR.out.only.size
            have hsz : (wr.setCell ⟨f.g, 2, none⟩ (.bool true)).heap.size = wr.heap.size := by simp [World.setCell]
            have hA : Only F w w3 := HO2.out.trans HO3.out fun j _ hj => hj.1
            have hB : Only F w wr := hA.trans HR.out.only fun j _ hj => hj.1
            refine ⟨rfl, ⟨_, h1.1.mono fun j hj => ?_, ?_⟩, hB.trans h1.2.1 fun j hj hj2 => ?_⟩
            · rcases hj with (hj | hj) | hj
              · exact .inl hj.1
              · exact .inr ⟨by omega, by rw [hsz]; exact hj.2⟩
              · exact .inr ⟨by omega, hj.2⟩
            · have h2 := sync_end L.st.ticked nm i HIf.out (by show L.st.names.Pairwise bLt; rw [lst_names]; exact HD.out.srt) (by exact HSe.out)
              rw [h1.2.2, hfn, HR.out.st, List.take_of_length_le (by simp), HFM.out, HSt3.out]
              exact h2
            · rcases hj2 with hj2 | hj2
              · exact hj2.1
              · omega)
          clear hgf' hgg hfm hfn hff hlt hk
          generalize f'.sure = sr at *
          go_wp2
          go_ret
          exact HEnd.out
    · simp only [hst, if_true] at HW HChg
      have HTick := Lib.hid (ltick_st L)
      rw [hst] at HTick
      simp only [if_true] at HTick
      rw [HW.out]
      clear hst
      go_enter Try.func16, Try.ntmps16
      go_wp2_with (first | (go_at_call 47; refine HT.out.mono ?_; rintro e w' ⟨rfl, rfl⟩) | (go_at_call 44; refine HChg.out.mono ?_; rintro e w2 ⟨rfl, hd2, ho2⟩))
      go_ret
      exact ⟨rfl, ⟨L.tick, hd2.mono fun k hk => .inl hk, HTick.out⟩, ho2⟩
  · have HW : Hid (L.st.sync nm = (L.st, 6)) := Lib.hid (by unfold RD.sync; rw [if_neg (by rw [h3]; simp), if_neg (by rw [h4]; simp), getF_find_none hg])
    rw [HW.out]
    clear h1 h2 h3 h4 hg
    go_enter Try.func16, Try.ntmps16
    go_wp2_with (go_at_call 47; refine HT.out.mono ?_; rintro e w' ⟨rfl, rfl⟩)
    go_ret
    exact HSm.out 6
  · have HW : Hid (L.st.sync nm = (L.st, 1)) := Lib.hid (by unfold RD.sync; rw [if_pos h3])
    rw [HW.out]
    clear h1 h2 h3
    go_enter Try.func16, Try.ntmps16
    go_wp2_with (go_at_call 47; refine HT.out.mono ?_; rintro e w' ⟨rfl, rfl⟩)
    go_ret
    exact HSm.out 1
  · have HW : Hid (L.st.sync nm = (L.st, 8)) := Lib.hid (by unfold RD.sync; rw [if_neg (by rw [h3]; simp), if_pos h4])
    rw [HW.out]
    clear h1 h2 h3 h4
    go_enter Try.func16, Try.ntmps16
    go_wp2_with (go_at_call 47; refine HT.out.mono ?_; rintro e w' ⟨rfl, rfl⟩)
    go_ret
    exact HSm.out 8
end Go.Proofs.Ytoihkanneiknkaa
