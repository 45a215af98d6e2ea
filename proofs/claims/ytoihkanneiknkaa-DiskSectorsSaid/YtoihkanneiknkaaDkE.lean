/- Contracts of octavoref04: settled, made. Contracts of octavoref04: made of a file that is there; Lay. Contract of octavoref04.Write: bytes are written, or the error. Conditions: those that each theorem names. -/
import Derived.Test.YtoihkanneiknkaaDkA
import Derived.Test.YtoihkanneiknkaaFresh
import Derived.Sort.Walk0
import Derived.Deep.DeepCutAuto
import Derived.StillTactics
namespace Go.Proofs.Ytoihkanneiknkaa
open Go.RowKit

theorem row_of_own {α : Type} {enc : α → List Value} {sz base : Nat} {w : World} {F : Nat → Prop} {T : TypeId} {v : Value} {l : List α} (h : w.ownsRow base T sz v l.length (flat enc l)) (hF : ∀ k, base ≤ k → k < w.heap.size → F k) : Row w F T sz enc v l :=
  ⟨own_base h (Nat.zero_le _), fun k hk => by have := h.lt k hk; exact hF k this.1 this.2⟩
theorem RefM.setPend {w : World} {F G : Nat → Prop} {p : Nat} {R : RMem} (h : RefM w F p R) (hFG : ∀ k, F k → G k) (v : Value) (l : List PR) (hr : Row w G 97 4 encP v l) (hb : ∀ q ∈ l, BOwn w G q.bv q.b) :
    RefM (w.setCell ⟨p, 6, none⟩ v) G p { R with pv := v, pr := l } where
  blk := by
    have := h.blk'.set_ 6 v
    simpa [RMem.blkOf] using this
  fp := hFG p h.fp
  fs := (h.fs.off (only_field h 6 v) fun k hk e => own_blk_ne h.fs.own h.blk (by decide) (e ▸ hk)).mono hFG
  ps := hr.off (only_field h 6 v) fun k hk e => own_blk_ne hr.own h.blk (by decide) (e ▸ hk)
  fb := fun f hf => ⟨((h.fb f hf).1.off (only_field h 6 v) fun k hk e => (h.fb f hf).1.ne h.blk (by decide) k hk e).mono hFG, ((h.fb f hf).2.off (only_field h 6 v) fun k hk e => (h.fb f hf).2.ne h.blk (by decide) k hk e).mono hFG⟩
  pb := fun q hq => (hb q hq).off (only_field h 6 v) fun k hk e => (hb q hq).ne h.blk (by decide) k hk e
theorem RefM.setFiles {w : World} {F G : Nat → Prop} {p : Nat} {R : RMem} (h : RefM w F p R) (hFG : ∀ k, F k → G k) (v : Value) (l : List FR) (hr : Row w G 75 4 encF v l) (hb : ∀ f ∈ l, BOwn w G f.nv f.now ∧ BOwn w G f.sv f.safe) :
    RefM (w.setCell ⟨p, 5, none⟩ v) G p { R with fv := v, fr := l } where
  blk := by
    have := h.blk'.set_ 5 v
    simpa [RMem.blkOf] using this
  fp := hFG p h.fp
  ps := (h.ps.off (only_field h 5 v) fun k hk e => own_blk_ne h.ps.own h.blk (by decide) (e ▸ hk)).mono hFG
  fs := hr.off (only_field h 5 v) fun k hk e => own_blk_ne hr.own h.blk (by decide) (e ▸ hk)
  pb := fun q hq => ((h.pb q hq).off (only_field h 5 v) fun k hk e => (h.pb q hq).ne h.blk (by decide) k hk e).mono hFG
  fb := fun f hf => ⟨(hb f hf).1.off (only_field h 5 v) fun k hk e => (hb f hf).1.ne h.blk (by decide) k hk e, (hb f hf).2.off (only_field h 5 v) fun k hk e => (hb f hf).2.ne h.blk (by decide) k hk e⟩

theorem pr_cells {w : World} {F : Nat → Prop} {v : Value} {l : List PR} (h : Row w F 97 4 encP v l) (hn : 0 < l.length) :
    ∃ g cap, v = .slice (some ⟨g, 0, none⟩) l.length cap ∧ F g ∧ g < w.heap.size ∧ l.length ≤ cap ∧ cap ≤ maxLen ∧
      (∀ k (hl : k < l.length), w.cell? ⟨g, k * 4, none⟩ = some (.string l[k].name) ∧ w.cell? ⟨g, k * 4 + 1, none⟩ = some (.int .i64 (l[k].at' : Int)) ∧ w.cell? ⟨g, k * 4 + 2, none⟩ = some l[k].bv ∧ w.cell? ⟨g, k * 4 + 3, none⟩ = some (.bool l[k].cut)) ∧ ∀ i, w.frozen? ⟨g, i, none⟩ = false := by
  obtain ⟨g, cap, h1, h2, h3, h4, h5, h6, h7⟩ := h.form encP_len hn
  exact ⟨g, cap, h1, h2, h3, h4, h5, fun k hl => ⟨by simpa using h6 k hl 0 _ rfl, h6 k hl 1 _ rfl, h6 k hl 2 _ rfl, h6 k hl 3 _ rfl⟩, h7⟩
theorem prinfo : (Try.prog.info? 97).map (fun i => (i.zero, i.size, i.bytes)) = some (some (.agg #[.string ByteArray.empty, .int .i64 0, .slice none 0 0, .bool false]), 4, 56) := by kernel_rfl
theorem frinfo : (Try.prog.info? 75).map (fun i => (i.zero, i.size, i.bytes)) = some (some (.agg #[.string ByteArray.empty, .slice none 0 0, .slice none 0 0, .bool false]), 4, 72) := by kernel_rfl

/-- The pieces of other files. -/
def others (nm : ByteArray) (l : List PR) : List PR := l.filter fun q => decide (q.name ≠ nm)
theorem others_take (nm : ByteArray) (l : List PR) (k : Nat) (h : k < l.length) : others nm (l.take (k + 1)) = if l[k].name = nm then others nm (l.take k) else others nm (l.take k) ++ [l[k]] := by
  rw [List.take_succ_eq_append_getElem h, others, List.filter_append]
  by_cases he : l[k].name = nm
  · rw [if_pos he]; simp [others, he]
  · rw [if_neg he]; simp [others, he]
theorem others_len (nm : ByteArray) (l : List PR) : (others nm l).length ≤ l.length := List.length_filter_le _ _
theorem others_st (nm : ByteArray) (l : List PR) : (others nm l).map PR.toP = (l.map PR.toP).filter fun p => decide (p.name ≠ nm) := by
  rw [others, List.filter_map]
  rfl

set_option maxHeartbeats 1600000 in
theorem settled_any (nm : ByteArray) (F : Nat → Prop) (p : Nat) (R : RMem) (w : World) (h : RefM w F p R) (hlen : R.pr.length ≤ 1000000) :
    Calls Try.prog 61 #[.pointer (some ⟨p, 0, none⟩), .string nm] w fun e w' => e = .returned (.tuple #[]) ∧ ∃ v, RefM w' (Gr F w w') p { R with pv := v, pr := others nm R.pr } ∧ Only F w w' := by
  obtain ⟨i0, hi0, hz0, hz1, hz2⟩ := info_parts prinfo
  obtain ⟨A, c, hv, hlc, hcm, _⟩ := h.ps.value
  have HR := Lib.hid h
  unfold maxLen at hcm
  have hpw : p < w.heap.size := h.blk.lt
  clear h
  go_enter Try.func61, Try.ntmps61
  go_wp2
  go_loopw [4, 5] (fun v i wr => ∃ k m : Nat, k ≤ R.pr.length ∧ m ≤ k ∧ Hid (m = (others nm (R.pr.take k)).length) ∧ i = .int .i64 k ∧ Hid (wr.ownsRow w.heap.size 97 4 v m (flat encP (others nm (R.pr.take k)))) ∧ Hid (Below w.heap.size w wr)) (fun _ i _ => R.pr.length - (intOf i).toNat)
  case atStart => exact ⟨0, 0, Nat.zero_le _, Nat.le_refl _, rfl, rfl, own_nil _ _ _ _, Below.refl _ _⟩
  case round =>
    obtain ⟨k, m, hk, hm, HM, rfl, HO, HB⟩ := hrel
    have HRw := Lib.hid (HR.out.here (Only.of_below HB.out))
    obtain ⟨_, _, _, _, _, _, c6⟩ := HRw.out.cells
    rw [hv] at c6
    have hbs := HB.out.size
    by_cases hlt : k < R.pr.length
    · obtain ⟨g, cap, hv2, _, hgw, _, _, hc, _⟩ := pr_cells HRw.out.ps (by omega)
      rw [hv] at hv2
      obtain ⟨rfl, rfl⟩ : A = some ⟨g, 0, none⟩ ∧ c = cap := by simpa using hv2
      obtain ⟨x0, x1, x2, x3⟩ := hc k hlt
      obtain ⟨A1, cc1, hn1, _, _, _⟩ := (HRw.out.pb _ (List.getElem_mem hlt)).value
      rw [hn1] at x2
      have hi : (k : Int) < (R.pr.length : Int) := by omega
      have HN := Lib.hid (others_take nm R.pr k hlt)
      have HE : Hid (encP R.pr[k] = [.string R.pr[k].name, .int .i64 (R.pr[k].at' : Int), .slice A1 R.pr[k].b.length cc1, .bool R.pr[k].cut]) := Lib.hid (by unfold encP; rw [hn1])
      have HL := Lib.hid (others_len nm (R.pr.take k))
      clear hc hv2 hn1
      by_cases he : R.pr[k].name = nm
      · rw [if_pos he] at HN
        have hb := str_yes he
        clear he
        generalize R.pr[k].name = x at *
        go_wp2
        go_roundw
        case rel =>
          refine ⟨k + 1, m, by omega, by omega, ?_, by go_num, ?_, HB⟩
          · show _ = _
            rw [HN.out]; exact HM.out
          · rw [HN.out]; exact HO
        case measure => simp [intOf]; omega
      · rw [if_neg he] at HN
        have hb := str_no he
        clear he
        generalize hpk : R.pr[k] = q at *
        clear hpk
        generalize q.name = x at *
        generalize (q.at' : Int) = y at *
        generalize q.cut = z at *
        generalize q.b.length = bl at *
        go_wp2_with (at_builtin; refine wpList_append_any _ rfl (.tmp 25) (.tmp 33) 30 rfl w.heap.size 97 i0 (.agg #[.string ByteArray.empty, .int .i64 0, .slice none 0 0, .bool false]) 4 56 Try.underlying30 hi0 hz0 hz1 hz2 rfl (by decide) u4 m _ rfl (HO.out.alloc _) (wr.heap.size + 1) (some ⟨wr.heap.size, 0, none⟩) 1 1 [.string x, .int .i64 y, .slice A1 bl cc1, .bool z] rfl (reads_new4 wr 97 [.string x, .int .i64 y, .slice A1 bl cc1, .bool z] rfl) (one_four _ _ _ _ rfl) (by unfold maxLen; omega) (by omega) (alloc_ge hbs _) ?_; intro v1 w1 hown1 hg1 _)
        have HO1 := Lib.hid hown1
        have HB1 := Lib.hid ((HB.out.alloc hbs (.cells #[.string x, .int .i64 y, .slice A1 bl cc1, .bool z] 97)).grown hg1 (alloc_ge hbs _) (own_ge HO.out))
        clear hown1 hg1
        go_wp2
        go_roundw
        case rel =>
          refine ⟨k + 1, m + 1, by omega, by omega, ?_, by go_num, ?_, HB1⟩
          · show _ = _
            rw [HN.out, List.length_append, ← HM.out]; rfl
          · rw [HN.out, flat_append, flat_one, HE.out]; exact HO1
        case measure => simp [intOf]; omega
    · obtain rfl : k = R.pr.length := by omega
      have hm1 := HM.out
      have ho1 := HO.out
      rw [List.take_length] at hm1 ho1
      subst hm1
      have fz := HRw.out.blk.frozen
      obtain ⟨A4, c4, rfl, _⟩ := (row_of_own (F := Gr F w wr) ho1 fun k h1 h2 => .inr ⟨h1, h2⟩).value
      have HS := Lib.hid ((HRw.out.setPend (G := Gr F w wr) (fun k hk => .inl hk) _ (others nm R.pr) (row_of_own ho1 fun k h1 h2 => .inr ⟨h1, h2⟩) fun q hq => (HRw.out.pb q (List.mem_filter.1 hq).1).mono fun k hk => .inl hk))
      have HOn := Lib.hid (((Only.of_below HB.out : Only F w wr)).setCell (p := ⟨p, 6, none⟩) (.inl HR.out.fp) (.slice A4 (others nm R.pr).length c4))
      clear ho1 HM HO
      go_wp2
      go_end0
      exact ⟨rfl, _, HS.out.mono fun k hk => by
        rcases hk with hk | hk
        · exact .inl hk
        · exact .inr (by simpa [World.setCell] using hk), HOn.out⟩

theorem str_lt (a b : ByteArray) : Op.bytesLess a.toList b.toList = decide (a.data.toList < b.data.toList) := by rw [bytesLess_eq, Lib.toList_data, Lib.toList_data]
theorem lessN_drop (nm : ByteArray) (l : List ByteArray) (k : Nat) (h : k < l.length) : lessN nm (l.drop k) = if l[k].data.toList < nm.data.toList then lessN nm (l.drop (k + 1)) + 1 else 0 := by
  rw [List.drop_eq_getElem_cons h, lessN]
theorem lessN_le (nm : ByteArray) (l : List ByteArray) : lessN nm l ≤ l.length := by
  induction l with
  | nil => exact Nat.le_refl _
  | cons x l ih => rw [lessN]; split <;> simp <;> omega
/-- A file that is new. -/
def newFR (nm : ByteArray) : FR := ⟨nm, .slice none 0 0, [], .slice none 0 0, [], false⟩
def RMem.made (R : RMem) (nm : ByteArray) (v : Value) : RMem := { R with fv := v, fr := putAt R.fr (lessN nm R.st.names) (newFR nm) }
theorem made_st (R : RMem) (nm : ByteArray) (v : Value) (h : R.st.find nm = none) : (R.made nm v).st = R.st.made nm := by
  unfold RD.made
  rw [h]
  simp [RMem.made, RMem.st, putAt, newFR, FR.toF, List.map_take, List.map_drop]

theorem fr_one {w : World} {F : Nat → Prop} {l : List FR} (h : ∀ f ∈ l, BOwn w F f.nv f.now ∧ BOwn w F f.sv f.safe) : ∀ u ∈ flat encF l, u.oneCell' = true :=
  flat_cells' l fun f hf u hu => by
    have h1 := (h f hf).1.cell
    have h2 := (h f hf).2.cell
    simp [encF] at hu
    rcases hu with rfl | rfl | rfl | rfl
    · rfl
    · exact h1
    · exact h2
    · rfl

theorem flat_sub_take {α : Type} {enc : α → List Value} {l : List α} {k : Nat} {u : Value} (h : u ∈ flat enc (l.take k)) : u ∈ flat enc l := by
  obtain ⟨x, hx, hu⟩ := List.mem_flatMap.1 h
  exact List.mem_flatMap.2 ⟨x, List.mem_of_mem_take hx, hu⟩
theorem flat_sub_drop {α : Type} {enc : α → List Value} {l : List α} {k : Nat} {u : Value} (h : u ∈ flat enc (l.drop k)) : u ∈ flat enc l := by
  obtain ⟨x, hx, hu⟩ := List.mem_flatMap.1 h
  exact List.mem_flatMap.2 ⟨x, List.mem_of_mem_drop hx, hu⟩
theorem flat_putAt (l : List FR) (k : Nat) (nm : ByteArray) : flat encF (putAt l k (newFR nm)) = flat encF (l.take k) ++ [.string nm, .slice none 0 0, .slice none 0 0, .bool false] ++ flat encF (l.drop k) := by
  rw [putAt, flat_append, flat_append, flat_one]
  rfl

theorem add0 (g j : Nat) : (⟨g, 0, none⟩ : Addr).add j = ⟨g, j, none⟩ := by
  unfold Addr.add
  by_cases hj : j = 0
  · subst hj; rfl
  · simp [hj]
theorem made_bytes {w w0 : World} {F : Nat → Prop} {p : Nat} {R : RMem} (h : RefM w F p R) (k : Nat) (nm : ByteArray) : ∀ f ∈ putAt R.fr k (newFR nm), BOwn w (Gr F w0 w) f.nv f.now ∧ BOwn w (Gr F w0 w) f.sv f.safe := by
  intro f hf
  rw [putAt, List.append_assoc] at hf
  rcases List.mem_append.1 hf with hf | hf
  · exact ⟨(h.fb f (List.mem_of_mem_take hf)).1.mono fun k hk => .inl hk, (h.fb f (List.mem_of_mem_take hf)).2.mono fun k hk => .inl hk⟩
  · rcases List.mem_append.1 hf with hf | hf
    · simp at hf
      subst hf
      exact ⟨bown_nil _ _, bown_nil _ _⟩
    · exact ⟨(h.fb f (List.mem_of_mem_drop hf)).1.mono fun k hk => .inl hk, (h.fb f (List.mem_of_mem_drop hf)).2.mono fun k hk => .inl hk⟩

/-- What made does where there is no such file. -/
def MadeAt (F : Nat → Prop) (p : Nat) (R : RMem) (nm : ByteArray) (w : World) (e : Ending) (w' : World) : Prop :=
  e = .returned (.int .i64 (lessN nm R.st.names : Int)) ∧ ∃ v, RefM w' (Gr F w w') p (R.made nm v) ∧ Only F w w'

set_option maxRecDepth 100000 in
set_option maxHeartbeats 1600000 in
theorem made_new (nm : ByteArray) (F : Nat → Prop) (p : Nat) (R : RMem) (w : World) (h : RefM w F p R) (hlen : R.fr.length ≤ 1000000) (hfd : R.st.find nm = none) :
    Calls Try.prog 59 #[.pointer (some ⟨p, 0, none⟩), .string nm] w fun e w' => MadeAt F p R nm w e w' := by
  obtain ⟨i0, hi0, hz0, hz1, hz2⟩ := info_parts frinfo
  obtain ⟨A, c, hv, hlc, hcm, _⟩ := h.fs.value
  obtain ⟨_, _, _, _, _, c5, _⟩ := h.cells
  have HFind := Lib.hid (find_any nm F p R w h)
  have HR := Lib.hid h
  have hfs := h.fs
  rw [hv] at hfs
  have HRd := Lib.hid hfs.reads
  have HOne := Lib.hid (fr_one h.fb)
  unfold maxLen at hcm
  have hp := posI_none hfd
  rw [hp] at HFind
  rw [hv] at c5
  clear h hp hfd hfs
  go_enter Try.func59, Try.ntmps59
  go_wp2_with (go_at_call 56; refine HFind.out.mono ?_; rintro e w' ⟨rfl, rfl⟩)
  go_loop [6] (fun i => ∃ k : Nat, k ≤ R.fr.length ∧ i = .int .i64 k ∧ Hid (lessN nm R.st.names = k + lessN nm (R.st.names.drop k))) (fun i => R.fr.length - (intOf i).toNat)
  case atStart => exact ⟨0, Nat.zero_le _, rfl, by simp [Hid]⟩
  case round =>
    obtain ⟨k, hk, rfl, HN⟩ := hrel
    have hway : (∃ h : k < R.fr.length, R.fr[k].name.data.toList < nm.data.toList ∧ Hid (lessN nm R.st.names = k + 1 + lessN nm (R.st.names.drop (k + 1)))) ∨
        ((∃ h : k < R.fr.length, ¬ R.fr[k].name.data.toList < nm.data.toList) ∨ k = R.fr.length) ∧ Hid (lessN nm R.st.names = k) := by
      by_cases hlt : k < R.fr.length
      · have hnl : k < R.st.names.length := by rw [st_names]; simpa using hlt
        have hd := lessN_drop nm R.st.names k hnl
        have hnk : R.st.names[k] = R.fr[k].name := by simp [st_names]
        rw [hnk] at hd
        by_cases hlx : R.fr[k].name.data.toList < nm.data.toList
        · rw [if_pos hlx] at hd
          exact .inl ⟨hlt, hlx, Lib.hid (by rw [HN.out, hd]; omega)⟩
        · rw [if_neg hlx] at hd
          exact .inr ⟨.inl ⟨hlt, hlx⟩, Lib.hid (by rw [HN.out, hd]; omega)⟩
      · have hke : k = R.fr.length := by omega
        refine .inr ⟨.inr hke, Lib.hid ?_⟩
        rw [HN.out, List.drop_of_length_le (by rw [st_names]; simp; omega)]
        rfl
    clear HN
    rcases hway with ⟨hlt, hlx, HN1⟩ | ⟨hend, HAt⟩
    · obtain ⟨g, cap, hv2, _, hgw, _, _, hc, _⟩ := fr_cells HR.out.fs (by omega)
      rw [hv] at hv2
      obtain ⟨rfl, rfl⟩ : A = some ⟨g, 0, none⟩ ∧ c = cap := by simpa using hv2
      obtain ⟨x0, _, _, _⟩ := hc k hlt
      have hi : (k : Int) < (R.fr.length : Int) := by omega
      clear hc hv2
      generalize R.fr[k].name = x at *
      have hb : Op.bytesLess x.toList nm.toList = true := by rw [str_lt, decide_eq_true hlx]
      clear hlx
      go_wp2
      go_round
      case rel => exact ⟨k + 1, by omega, by go_num, HN1⟩
      case measure => simp [intOf]; omega
    · have HK := Lib.hid (HRd.out.pre hk)
      rw [flat_take encF_len] at HK
      have HD := Lib.hid (HRd.out.cut hk hlc)
      rw [flat_drop encF_len] at HD
      have hkc : k ≤ c := by omega
      rcases hend with ⟨hlt, hlx⟩ | hke
      · obtain ⟨g, cap, hv2, _, hgw, _, _, hc, _⟩ := fr_cells HR.out.fs (by omega)
        rw [hv] at hv2
        obtain ⟨rfl, rfl⟩ : A = some ⟨g, 0, none⟩ ∧ c = cap := by simpa using hv2
        obtain ⟨x0, _, _, _⟩ := hc k hlt
        have hi : (k : Int) < (R.fr.length : Int) := by omega
        clear hc hv2
        generalize R.fr[k].name = x at *
        have hb : Op.bytesLess x.toList nm.toList = false := by rw [str_lt, decide_eq_false hlx]
        clear hlx
        have HDx : Hid (Reads w w.heap.size 4 (some ⟨g, k * 4, none⟩) (R.fr.length - k) (flat encF (R.fr.drop k))) := Lib.hid (by
          have := HD.out
          rw [if_neg (by omega), Option.map_some, add0] at this
          exact this)
        clear HD
        go_wp2_with (first | (at_builtin; refine wpList_append_any _ rfl (.tmp 35) (.tmp 41) 29 rfl w.heap.size 75 i0 (.agg #[.string ByteArray.empty, .slice none 0 0, .slice none 0 0, .bool false]) 4 72 Try.underlying29 hi0 hz0 hz1 hz2 rfl (by decide) (.slice none 0 0) 0 [] rfl (own_nil _ _ _ _) w.heap.size (some ⟨g, 0, none⟩) k c _ rfl HK.out (fun u hu => HOne.out u (flat_sub_take hu)) (by unfold maxLen; omega) (by omega) (Nat.le_refl _) ?_; intro v1 w1 ho1 hg1 _; rw [Nat.zero_add, List.nil_append] at ho1; have HO1 := Lib.hid ho1; have HN1 : Hid (Only (fun _ => False) w w1) := Lib.hid ((Only.refl _ w).grown hg1 (fun k hk => by cases hk)); have d5 := (HR.out.here HN1.out).cells.2.2.2.2.2.1; rw [hv] at d5; clear ho1 hg1) | (at_builtin; refine wpList_append_any _ rfl (.tmp 43) (.tmp 46) 29 rfl w.heap.size 75 i0 (.agg #[.string ByteArray.empty, .slice none 0 0, .slice none 0 0, .bool false]) 4 72 Try.underlying29 hi0 hz0 hz1 hz2 rfl (by decide) v1 k _ rfl (HO1.out.alloc _) (w1.heap.size + 1) (some ⟨w1.heap.size, 0, none⟩) 1 1 [.string nm, .slice none 0 0, .slice none 0 0, .bool false] rfl (reads_new4 w1 75 [.string nm, .slice none 0 0, .slice none 0 0, .bool false] rfl) (one_four _ _ _ _ rfl) (by unfold maxLen; omega) (by omega) (alloc_ge HN1.out.size _) ?_; intro v2 w2 ho2 hg2 _; have HO2 := Lib.hid ho2; have HN2 : Hid (Only (fun _ => False) w w2) := Lib.hid ((HN1.out.alloc _).grown hg2 (fun k hk => .inr (own_ge HO1.out k hk))); have e5 := (HR.out.here HN2.out).cells.2.2.2.2.2.1; rw [hv] at e5; have HD2 := Lib.hid (HDx.out.only (Nat.le_refl _) HN2.out (fun _ _ => id)); clear ho2 hg2) | (at_builtin; refine wpList_append_any _ rfl (.tmp 48) (.tmp 54) 29 rfl w.heap.size 75 i0 (.agg #[.string ByteArray.empty, .slice none 0 0, .slice none 0 0, .bool false]) 4 72 Try.underlying29 hi0 hz0 hz1 hz2 rfl (by decide) v2 (k + 1) _ rfl HO2.out w.heap.size _ (R.fr.length - k) (c - k) _ rfl HD2.out (fun u hu => HOne.out u (flat_sub_drop hu)) (by unfold maxLen; omega) (by omega) HN2.out.size ?_; intro v3 w3 ho3 hg3 _; have HO3 := Lib.hid ho3; have HN3 : Hid (Only (fun _ => False) w w3) := Lib.hid (HN2.out.grown hg3 (fun k hk => .inr (own_ge HO2.out k hk))); have HR3 := Lib.hid (HR.out.here HN3.out); have fz := HR3.out.blk.frozen; have f5 := HR3.out.cells.2.2.2.2.2.1; rw [hv] at f5; have hlen3 : k + 1 + (R.fr.length - k) = (putAt R.fr k (newFR nm)).length := (by simp [putAt]; omega); rw [hlen3] at ho3; obtain ⟨A3, c3, rfl, _⟩ := (row_of_own (enc := encF) (l := putAt R.fr k (newFR nm)) (F := Gr F w w3) (by rw [flat_putAt]; exact ho3) (fun k h1 h2 => .inr ⟨h1, h2⟩)).value; have HO3' := Lib.hid ho3; clear ho3 hg3))
        go_ret
        unfold MadeAt
        refine ⟨by rw [HAt.out]; rfl, .slice A3 (putAt R.fr k (newFR nm)).length c3, ?_, (HN3.out.mono fun _ _ h => h.elim).setCell (p := ⟨p, 5, none⟩) (.inl HR.out.fp) _⟩
        unfold RMem.made
        rw [HAt.out]
        refine RefM.mono (HR3.out.setFiles (G := Gr F w w3) (fun k hk => .inl hk) _ _ (row_of_own (by rw [flat_putAt]; exact HO3'.out) (fun k h1 h2 => .inr ⟨h1, h2⟩)) (made_bytes HR3.out k nm)) (fun k hk => by
          rcases hk with hk | hk
          · exact .inl hk
          · exact .inr (by simpa [World.setCell] using hk))
      · have hd0 : flat encF (R.fr.drop k) = [] := by rw [List.drop_of_length_le (by omega)]; rfl
        have HDx : Hid (∀ w B A, Reads w B 4 A (R.fr.length - k) (flat encF (R.fr.drop k))) := Lib.hid (fun w B A => ⟨by rw [hd0]; simp; omega, fun h => absurd h (by omega)⟩)
        have hdec : decide ((k : Int) < (R.fr.length : Int)) = false := decide_eq_false (by omega)
        have hdec2 : decide (k < R.fr.length) = false := decide_eq_false (by omega)
        have HKE := Lib.hid hke
        clear HD hke hd0
        go_wp2_with (first | (at_builtin; refine wpList_append_any _ rfl (.tmp 35) (.tmp 41) 29 rfl w.heap.size 75 i0 (.agg #[.string ByteArray.empty, .slice none 0 0, .slice none 0 0, .bool false]) 4 72 Try.underlying29 hi0 hz0 hz1 hz2 rfl (by decide) (.slice none 0 0) 0 [] rfl (own_nil _ _ _ _) w.heap.size A k c _ rfl HK.out (fun u hu => HOne.out u (flat_sub_take hu)) (by unfold maxLen; omega) (by omega) (Nat.le_refl _) ?_; intro v1 w1 ho1 hg1 _; rw [Nat.zero_add, List.nil_append] at ho1; have HO1 := Lib.hid ho1; have HN1 : Hid (Only (fun _ => False) w w1) := Lib.hid ((Only.refl _ w).grown hg1 (fun k hk => by cases hk)); have d5 := (HR.out.here HN1.out).cells.2.2.2.2.2.1; rw [hv] at d5; clear ho1 hg1) | (at_builtin; refine wpList_append_any _ rfl (.tmp 43) (.tmp 46) 29 rfl w.heap.size 75 i0 (.agg #[.string ByteArray.empty, .slice none 0 0, .slice none 0 0, .bool false]) 4 72 Try.underlying29 hi0 hz0 hz1 hz2 rfl (by decide) v1 k _ rfl (HO1.out.alloc _) (w1.heap.size + 1) (some ⟨w1.heap.size, 0, none⟩) 1 1 [.string nm, .slice none 0 0, .slice none 0 0, .bool false] rfl (reads_new4 w1 75 [.string nm, .slice none 0 0, .slice none 0 0, .bool false] rfl) (one_four _ _ _ _ rfl) (by unfold maxLen; omega) (by omega) (alloc_ge HN1.out.size _) ?_; intro v2 w2 ho2 hg2 _; have HO2 := Lib.hid ho2; have HN2 : Hid (Only (fun _ => False) w w2) := Lib.hid ((HN1.out.alloc _).grown hg2 (fun k hk => .inr (own_ge HO1.out k hk))); have e5 := (HR.out.here HN2.out).cells.2.2.2.2.2.1; rw [hv] at e5; clear ho2 hg2) | (at_builtin; refine wpList_append_any _ rfl (.tmp 48) (.tmp 54) 29 rfl w.heap.size 75 i0 (.agg #[.string ByteArray.empty, .slice none 0 0, .slice none 0 0, .bool false]) 4 72 Try.underlying29 hi0 hz0 hz1 hz2 rfl (by decide) v2 (k + 1) _ rfl HO2.out w.heap.size _ (R.fr.length - k) _ _ rfl (HDx.out _ _ _) (fun u hu => HOne.out u (flat_sub_drop hu)) (by have := HKE.out; unfold maxLen; omega) (by have := HKE.out; omega) HN2.out.size ?_; intro v3 w3 ho3 hg3 _; have HO3 := Lib.hid ho3; have HN3 : Hid (Only (fun _ => False) w w3) := Lib.hid (HN2.out.grown hg3 (fun k hk => .inr (own_ge HO2.out k hk))); have HR3 := Lib.hid (HR.out.here HN3.out); have fz := HR3.out.blk.frozen; have f5 := HR3.out.cells.2.2.2.2.2.1; rw [hv] at f5; have hlen3 : k + 1 + (R.fr.length - k) = (putAt R.fr k (newFR nm)).length := (by have := HKE.out; simp [putAt]; omega); rw [hlen3] at ho3; obtain ⟨A3, c3, rfl, _⟩ := (row_of_own (enc := encF) (l := putAt R.fr k (newFR nm)) (F := Gr F w w3) (by rw [flat_putAt]; exact ho3) (fun k h1 h2 => .inr ⟨h1, h2⟩)).value; have HO3' := Lib.hid ho3; clear ho3 hg3))
        all_goals
          go_ret
          unfold MadeAt
          refine ⟨by rw [HAt.out]; rfl, .slice A3 (putAt R.fr k (newFR nm)).length c3, ?_, (HN3.out.mono fun _ _ h => h.elim).setCell (p := ⟨p, 5, none⟩) (.inl HR.out.fp) _⟩
          unfold RMem.made
          rw [HAt.out]
          refine RefM.mono (HR3.out.setFiles (G := Gr F w w3) (fun k hk => .inl hk) _ _ (row_of_own (by rw [flat_putAt]; exact HO3'.out) (fun k h1 h2 => .inr ⟨h1, h2⟩)) (made_bytes HR3.out k nm)) (fun k hk => by
            rcases hk with hk | hk
            · exact .inl hk
            · exact .inr (by simpa [World.setCell] using hk))
end Go.Proofs.Ytoihkanneiknkaa

namespace Go.Proofs.Ytoihkanneiknkaa
open Go.RowKit

theorem made_old (nm : ByteArray) (k : Nat) (F : Nat → Prop) (p : Nat) (R : RMem) (w : World) (h : RefM w F p R) (hfd : R.st.find nm = some k) :
    Calls Try.prog 59 #[.pointer (some ⟨p, 0, none⟩), .string nm] w fun e w' => e = .returned (.int .i64 (k : Int)) ∧ w = w' := by
  have HFind := Lib.hid (find_any nm F p R w h)
  have hp := posI_some hfd
  rw [hp] at HFind
  have hk0 : (0 : Int) ≤ (k : Int) := by omega
  clear h hp hfd
  go_enter Try.func59, Try.ntmps59
  go_wp2_with (go_at_call 56; refine HFind.out.mono ?_; rintro e w' ⟨rfl, rfl⟩)
  go_ret
  exact ⟨rfl, rfl⟩

/-- The bytes with zeros behind, so many as lack. -/
def padB (l : List UInt8) (n : Nat) : List UInt8 := l ++ List.replicate (n - l.length) 0
theorem padB_len (l : List UInt8) (n : Nat) : (padB l n).length = max l.length n := by simp [padB]; omega
theorem padB_more (l : List UInt8) (j : Nat) : l ++ List.replicate (j + 1) 0 = (l ++ List.replicate j 0) ++ [0] := by
  rw [List.replicate_succ', List.append_assoc]
theorem lay_done (into : List UInt8) (at' : Nat) (b : List UInt8) : (padB into (at' + b.length)).take at' ++ b ++ (padB into (at' + b.length)).drop (at' + b.length) = layB into at' b := by
  unfold layB padB
  congr 1
  rw [List.drop_append]
  rcases Nat.lt_or_ge into.length (at' + b.length) with h | h
  · rw [List.drop_of_length_le (by omega), List.drop_of_length_le (by simp)]
    simp
  · rw [show at' + b.length - into.length = 0 from by omega]
    simp
/-- Where the second loop stands. -/
def laidTo (pd : List UInt8) (at' : Nat) (b : List UInt8) (i : Nat) : List UInt8 := pd.take at' ++ b.take i ++ pd.drop (at' + i)
theorem laidTo_len (pd : List UInt8) (at' : Nat) (b : List UInt8) (i : Nat) (hi : i ≤ b.length) (h : at' + b.length ≤ pd.length) : (laidTo pd at' b i).length = pd.length := by
  unfold laidTo
  simp only [List.length_append, List.length_take, List.length_drop]
  omega
theorem laidTo_set (pd : List UInt8) (at' : Nat) (b : List UInt8) (i : Nat) (hi : i < b.length) (h : at' + b.length ≤ pd.length) : (laidTo pd at' b i).set (at' + i) b[i] = laidTo pd at' b (i + 1) := by
  unfold laidTo
  have h1 : (pd.take at' ++ b.take i).length = at' + i := by simp only [List.length_append, List.length_take]; omega
  rw [List.set_append_right _ _ (by omega), h1, Nat.sub_self]
  have h2 : pd.drop (at' + i) = pd[at' + i]'(by omega) :: pd.drop (at' + i + 1) := List.drop_eq_getElem_cons (by omega)
  rw [h2, List.set_cons_zero, List.take_succ_eq_append_getElem hi]
  simp only [List.append_assoc, List.cons_append, List.nil_append, Nat.add_assoc]
theorem bv_set (l : List UInt8) (k : Nat) (x : UInt8) : (bv l).set k (.int .u8 (x.toNat : Int)) = bv (l.set k x) := by
  unfold bv
  rw [List.map_set]

set_option maxHeartbeats 1600000 in
theorem lay_any (into b : List UInt8) (at' : Nat) (A A' : Option Addr) (B B' c c' : Nat) (w : World) (hl : into.length ≤ 1099511627776) (hb : at' + b.length ≤ 1099511627776) (h : Reads w B 1 A into.length (bv into)) (h' : Reads w B' 1 A' b.length (bv b)) :
    Calls Try.prog 60 #[.slice A into.length c, .int .i64 at', .slice A' b.length c'] w fun e w' => ∃ v, e = .returned v ∧ w'.ownsRow w.heap.size 5 1 v (layB into at' b).length (bv (layB into at' b)) ∧ Below w.heap.size w w' := by
  obtain ⟨i0, hi0, hz0, hz1, hz2⟩ := info_parts u8info
  have HD := Lib.hid (lay_done into at' b)
  have HL := Lib.hid (padB_len into (at' + b.length))
  have HCp := Lib.hid (copy_any into A B c w (by omega) h)
  have HB' := Lib.hid h'
  clear h h'
  go_enter Try.func60, Try.ntmps60
  go_wp2_with (go_at_call 54; refine HCp.out.mono ?_; rintro e w1 ⟨v1, rfl, ho1, hb1⟩)
  have HO1 := Lib.hid ho1
  have HB1 := Lib.hid hb1
  clear ho1 hb1
  obtain ⟨lack, hlack⟩ : ∃ lack, lack = at' + b.length - into.length := ⟨_, rfl⟩
  go_loopg [7] lack (fun g v wr => ∃ j : Nat, j + g = lack ∧ Hid (wr.ownsRow w.heap.size 5 1 v (into.length + j) (bv (into ++ List.replicate j 0))) ∧ Hid (Below w.heap.size w wr))
  case atStart => exact ⟨0, by omega, by simpa using HO1, HB1⟩
  case round =>
    obtain ⟨j, hjg, HO, HB⟩ := hrel
    obtain ⟨A2, c2, rfl, hc2, _⟩ := own_form HO.out
    have hbs := HB.out.size
    cases gk with
    | succ g =>
      have hlt : ((into.length + j : Nat) : Int) < (at' : Int) + (b.length : Int) := by omega
      have hlt2 : (into.length : Int) + (j : Int) < (at' : Int) + (b.length : Int) := by omega
      go_wp2_with (at_builtin; refine wpList_append_any _ rfl (.tmp 18) (.tmp 19) 41 rfl w.heap.size 5 i0 (.int .u8 0) 1 1 Try.underlying41 hi0 hz0 hz1 hz2 rfl (by decide) _ (into.length + j) _ rfl (HO.out.alloc _) (wr.heap.size + 1) (some ⟨wr.heap.size, 0, none⟩) 1 1 [.int .u8 0] rfl (reads_newN wr 5 1 [.int .u8 0] 1 rfl) (by intro u hu; simp at hu; subst hu; rfl) (by unfold maxLen; omega) (by omega) (alloc_ge hbs _) ?_; intro v2 w2 ho2 hg2 _)
      have HO2 := Lib.hid ho2
      have HB2 := Lib.hid ((HB.out.alloc hbs (.cells #[.int .u8 0] 5)).grown hg2 (alloc_ge hbs _) (own_ge HO.out))
      clear ho2 hg2
      go_wp2
      go_roundg g
      case measure => omega
      case rel =>
        refine ⟨j + 1, by omega, ?_, HB2⟩
        rw [padB_more, bv_append]
        exact HO2
    | zero =>
      have hj : into.length + j = max into.length (at' + b.length) := by omega
      have hlt : ¬ ((into.length + j : Nat) : Int) < (at' : Int) + (b.length : Int) := by omega
      have HP : Hid (wr.ownsRow w.heap.size 5 1 (.slice A2 (into.length + j) c2) (into.length + j) (bv (padB into (at' + b.length)))) := by
        have e : j = at' + b.length - into.length := by omega
        show World.ownsRow _ _ _ _ _ _ _
        unfold padB
        rw [← e]
        exact HO.out
      have HPl : Hid (at' + b.length ≤ (padB into (at' + b.length)).length) := Lib.hid (by rw [HL.out]; omega)
      have HPn : Hid (into.length + j = (padB into (at' + b.length)).length) := Lib.hid (by rw [HL.out]; omega)
      generalize padB into (at' + b.length) = pd at *
      generalize hn : into.length + j = n at *
      have hnb : at' + b.length ≤ n := by omega
      have HS0 : Hid (wr.ownsRow w.heap.size 5 1 (.slice A2 n c2) n (bv (laidTo pd at' b 0))) := Lib.hid (by
        have e : laidTo pd at' b 0 = pd := by simp [laidTo]
        rw [e]
        exact HP.out)
      obtain ⟨wo, rfl⟩ : ∃ wo : World, wo = wr := ⟨_, rfl⟩
      clear HO hj hn HP
      go_wp2_with fail
      go_loopw [8] (fun i wr => ∃ k : Nat, k ≤ b.length ∧ i = .int .i64 k ∧ Hid (wr.ownsRow w.heap.size 5 1 (.slice A2 n c2) n (bv (laidTo pd at' b k))) ∧ Hid (Below w.heap.size w wr)) (fun i _ => b.length - (intOf i).toNat)
      case atStart => exact ⟨0, Nat.zero_le _, rfl, HS0, HB⟩
      case round =>
        obtain ⟨k, hk, rfl, HO, HBw⟩ := hrel
        by_cases hlt : k < b.length
        · obtain ⟨g, cap, hv2, hbg, _⟩ := HO.out.form (by omega)
          obtain ⟨rfl, rfl⟩ : A2 = some ⟨g, 0, none⟩ ∧ c2 = cap := by simpa using hv2
          obtain ⟨b2, off2, rfl, hbB, hcb⟩ := (HB'.out.over HBw.out).form (by omega)
          have hx := hcb k _ (bv_get b k hlt)
          have hi : (k : Int) < (b.length : Int) := by omega
          have hcell := HO.out.cellAt (at' + k) (by omega)
          have hget : (bv (laidTo pd at' b k))[at' + k]? = some (.int .u8 (((laidTo pd at' b k)[at' + k]'(by rw [laidTo_len pd at' b k hk HPl.out]; have := HPn.out; omega)).toNat : Int)) := bv_get _ _ _
          rw [hget] at hcell
          have hfr := HO.out.frozenAt (at' + k)
          have hst := HO.out.stored (at' + k) (.int .u8 (b[k].toNat : Int))
          rw [bv_set, laidTo_set pd at' b k hlt HPl.out] at hst
          have HST := Lib.hid hst.1
          have HBS := Lib.hid (HBw.out.grown hst.2 HBw.out.size (fun q hq => by injection hq with hq; subst hq; exact hbg))
          have hi1 : (at' : Int) + (k : Int) < (n : Int) := by omega
          clear hcb hget hst hv2
          generalize b[k].toNat = x at *
          go_wp2
          go_roundw
          case rel => exact ⟨k + 1, by omega, by go_num, HST, HBS⟩
          case measure => simp [intOf]; omega
        · obtain rfl : k = b.length := by omega
          have hfin := HO.out
          have e : laidTo pd at' b b.length = layB into at' b := by
            rw [← HD.out]
            simp [laidTo]
          rw [e] at hfin
          have hlen : n = (layB into at' b).length := by
            have := hfin.1
            rw [bv_length] at this
            omega
          have HF := Lib.hid hfin
          clear hfin e
          go_wp2
          go_ret
          exact ⟨.slice A2 n c2, rfl, by rw [← hlen]; exact HF.out, HBw.out⟩
end Go.Proofs.Ytoihkanneiknkaa

namespace Go.Proofs.Ytoihkanneiknkaa
open Go.RowKit

/-- One cell of a file is stored. -/
theorem RefM.setFile {w : World} {F G : Nat → Prop} {p : Nat} {R : RMem} (h : RefM w F p R) (hFG : ∀ k, F k → G k) {g : Nat} (hg : R.fv.ownBlock = some g) (k : Nat) (hl : k < R.fr.length) (j : Nat) (hj : j < 4) (u : Value) (f : FR) (hf : encF f = (encF R.fr[k]).set j u)
    (hb : BOwn w G f.nv f.now ∧ BOwn w G f.sv f.safe) : RefM (w.setCell ⟨g, k * 4 + j, none⟩ u) G p { R with fr := R.fr.set k f } := by
  have hs := h.fs.set encF_len hg k hl j hj u f hf
  have hblk : ∃ cur, Blk w g 75 cur := by
    rcases h.fs.own.2 with ⟨e, _⟩ | ⟨g', cap, cur, e, _, hh, _⟩
    · rw [e] at hg; simp [Value.ownBlock] at hg
    · rw [e] at hg
      have : g' = g := by simpa [Value.ownBlock] using hg
      subst this
      exact ⟨cur, hh⟩
  obtain ⟨cur, hblk⟩ := hblk
  have ho : Only (fun q => q = g) w (w.setCell ⟨g, k * 4 + j, none⟩ u) := (Only.refl (fun q => q = g) w).setCell (p := ⟨g, k * 4 + j, none⟩) (.inl rfl) u
  have hbo : ∀ {v : Value} {l : List UInt8} {H : Nat → Prop}, BOwn w H v l → BOwn (w.setCell ⟨g, k * 4 + j, none⟩ u) H v l := fun hb => hb.off ho fun q hq e => hb.ne hblk (by decide) q hq e
  refine ⟨h.blk.only ho (fun e => Blk.ne_ h.blk hblk (by decide) e), hFG p h.fp, hs.mono hFG, (h.ps.off ho fun q hq e => own_blk_ne h.ps.own hblk (by decide) (e ▸ hq)).mono hFG, fun f' hf' => ?_, fun q hq => (hbo (h.pb q hq)).mono hFG⟩
  rcases List.mem_or_eq_of_mem_set hf' with hm | rfl
  · exact ⟨(hbo (h.fb f' hm).1).mono hFG, (hbo (h.fb f' hm).2).mono hFG⟩
  · exact ⟨hbo hb.1, hbo hb.2⟩

/-- The disk stands in some memory of F. -/
def RefAt (w : World) (F : Nat → Prop) (p : Nat) (s : RD) : Prop := ∃ R, RefM w F p R ∧ R.st = s
/-- A call has answered n, and left s. -/
def OpAt (F : Nat → Prop) (p : Nat) (s : RD) (n : Nat) (w : World) (e : Ending) (w' : World) : Prop := e = .returned (.int .i64 (n : Int)) ∧ RefAt w' (Gr F w w') p s ∧ Only F w w'
theorem gr_mono {F : Nat → Prop} {w w' w'' : World} (h1 : w.heap.size ≤ w'.heap.size) (h2 : w'.heap.size ≤ w''.heap.size) : ∀ k, Gr (Gr F w w') w' w'' k → Gr F w w'' k := fun k hk => by
  rcases hk with (hk | hk) | hk
  · exact .inl hk
  · exact .inr (by omega)
  · exact .inr (by omega)

set_option maxHeartbeats 1600000 in
/-- The ways on which nothing is written. -/
theorem write_no (nm : ByteArray) (at' : Int) (b : List UInt8) (A : Option Addr) (c : Nat) (F : Nat → Prop) (p : Nat) (R : RMem) (w : World) (h : RefM w F p R) (hf : R.Fine) (hn : nm.size ≤ 9223372036854775807) (ha : -9223372036854775808 ≤ at' ∧ at' ≤ 9223372036854775807) (hb : b.length ≤ 1073741824)
    (hno : named nm = false ∨ R.down = true ∨ (at' < 0 ∨ (R.st.had nm : Int) < at') ∨ b = [] ∨ R.st.fits nm (max (R.st.had nm) (at'.toNat + b.length)) ≠ 0 ∨ R.st.stops = true) :
    Calls Try.prog 30 #[.pointer (some ⟨p, 0, none⟩), .string nm, .int .i64 at', .slice A b.length c] w fun e w' => OpAt F p (R.st.write nm at' b).1 (R.st.write nm at' b).2 w e w' := by
  have HNm := Lib.hid (named_any nm w hn)
  obtain ⟨c0, c1, c2, c3, c4, c5, c6⟩ := h.cells
  have HR := Lib.hid h
  have HSame : Hid (∀ w', Only (fun _ => False) w w' → RefAt w' (Gr F w w') p R.st ∧ Only F w w') := Lib.hid (fun w' ho => ⟨⟨R, (h.here ho).mono fun k hk => .inl hk, rfl⟩, ho.mono fun _ _ h => h.elim⟩)
  have HRefl := Lib.hid (Only.refl (fun _ => False) w)
  clear h c0 c1 c2 c3 c6
  rcases hnm : named nm with _ | _
  · have HW : Hid (R.st.write nm at' b = (R.st, 1)) := Lib.hid (by unfold RD.write; rw [if_pos hnm])
    rw [hnm] at HNm
    clear hnm hno
    rw [HW.out]
    go_enter Try.func30, Try.ntmps30
    go_wp2_with (go_at_call 55; refine HNm.out.mono ?_; rintro e w' ⟨rfl, rfl⟩)
    go_ret
    exact ⟨rfl, HSame.out _ HRefl.out⟩
  · rw [hnm] at HNm
    rcases hdn : R.down with _ | _
    · rw [hdn] at c4
      have hf0 : R.st.down = false := hdn
      have HWr : Hid (R.st.write nm at' b = if at' < 0 ∨ (R.st.had nm : Int) < at' then (R.st, 2) else if b = [] then (R.st, 0) else
          if R.st.fits nm (max (R.st.had nm) (at'.toNat + b.length)) ≠ 0 then (R.st, R.st.fits nm (max (R.st.had nm) (at'.toNat + b.length))) else
          if R.st.stops = true then (R.st.off, 8) else (R.st.write nm at' b)) := Lib.hid (by
        conv => lhs; unfold RD.write
        rw [if_neg (by rw [hnm]; simp), if_neg (by rw [hf0]; simp)]
        by_cases q1 : at' < 0 ∨ (R.st.had nm : Int) < at'
        · rw [if_pos q1, if_pos q1]
        · rw [if_neg q1, if_neg q1]
          by_cases q2 : b = []
          · rw [if_pos q2, if_pos q2]
          · rw [if_neg q2, if_neg q2]
            by_cases q3 : R.st.fits nm (max (R.st.had nm) (at'.toNat + b.length)) ≠ 0
            · rw [if_pos q3, if_pos q3]
            · rw [if_neg q3, if_neg q3]
              by_cases q4 : R.st.stops = true
              · rw [if_pos q4, if_pos q4]
              · rw [if_neg q4, if_neg q4]
                unfold RD.write
                rw [if_neg (by rw [hnm]; simp), if_neg (by rw [hf0]; simp), if_neg q1, if_neg q2, if_neg q3, if_neg q4])
      have hno' : (at' < 0 ∨ (R.st.had nm : Int) < at') ∨ b = [] ∨ R.st.fits nm (max (R.st.had nm) (at'.toNat + b.length)) ≠ 0 ∨ R.st.stops = true := by
        rcases hno with h1 | h1 | h1
        · rw [hnm] at h1; cases h1
        · rw [hdn] at h1; cases h1
        · exact h1
      have hhad := Nat.le_trans (had_le R nm) hf.sum
      have HFind := Lib.hid (find_any nm F p R w HR.out)
      have HFits : Hid (0 ≤ at' → at' ≤ (R.st.had nm : Int) → Calls Try.prog 57 #[.pointer (some ⟨p, 0, none⟩), .string nm, .int .i64 ((max (R.st.had nm) (at'.toNat + b.length) : Nat) : Int)] w fun e w' => e = .returned (.int .i64 (R.st.fits nm (max (R.st.had nm) (at'.toNat + b.length)) : Int)) ∧ Only (fun _ => False) w w') :=
        Lib.hid (fun h1 h2 => fits_any nm _ F p R w HR.out hf (by omega))
      have HChg : Hid (∀ W, Only (fun _ => False) w W → Calls Try.prog 58 #[.pointer (some ⟨p, 0, none⟩)] W fun e w' => e = .returned (.int .i64 (if R.st.stops then 8 else 0)) ∧ RefM w' F p R.tick ∧ Only F W w') :=
        Lib.hid (fun W hW => change_any F p R W (HR.out.here hW) hf.chg hf.left)
      have HTick := Lib.hid (tick_st R)
      clear hnm hdn hf0 hno
      rcases hfd : R.st.find nm with _ | k
      · have hh := had_none hfd
        rw [show posI nm R.st.names = -1 from posI_none hfd] at HFind
        rw [hh] at HWr hno' HFits hhad
        clear hfd hh
        have hsz : (0 : Int) ≤ ((0 : Nat) : Int) := by omega
        by_cases q1 : at' < 0
        · have HW := Lib.hid (HWr.out.trans (if_pos (.inl q1)))
          clear HWr hno' HFits
          rw [HW.out]
          go_enter Try.func30, Try.ntmps30
          go_wp2_with (first | (go_at_call 55; refine HNm.out.mono ?_; rintro e w' ⟨rfl, rfl⟩) | (go_at_call 56; refine HFind.out.mono ?_; rintro e w' ⟨rfl, rfl⟩))
          go_ret
          exact ⟨rfl, HSame.out _ HRefl.out⟩
        · have q1' : 0 ≤ at' := by omega
          by_cases q2 : ((0 : Nat) : Int) < at'
          · have HW := Lib.hid (HWr.out.trans (if_pos (.inr q2)))
            clear HWr hno' HFits q1
            rw [HW.out]
            go_enter Try.func30, Try.ntmps30
            go_wp2_with (first | (go_at_call 55; refine HNm.out.mono ?_; rintro e w' ⟨rfl, rfl⟩) | (go_at_call 56; refine HFind.out.mono ?_; rintro e w' ⟨rfl, rfl⟩))
            go_ret
            exact ⟨rfl, HSame.out _ HRefl.out⟩
          · have q2' : at' ≤ ((0 : Nat) : Int) := by omega
            have hW0 := HWr.out.trans (if_neg (fun hh => hh.elim q1 q2))
            by_cases q3 : b = []
            · have HW := Lib.hid (hW0.trans (if_pos q3))
              clear HWr hno' HFits q1 q2 hW0
              subst q3
              rw [HW.out]
              go_enter Try.func30, Try.ntmps30
              go_wp2_with (first | (go_at_call 55; refine HNm.out.mono ?_; rintro e w' ⟨rfl, rfl⟩) | (go_at_call 56; refine HFind.out.mono ?_; rintro e w' ⟨rfl, rfl⟩))
              go_ret
              exact ⟨rfl, HSame.out _ HRefl.out⟩
            · have q3' : b.length ≠ 0 := fun e => q3 (List.eq_nil_of_length_eq_zero e)
              have q3b : ((b.length : Int) == 0) = false := by rw [beq_eq_false_iff_ne]; omega
              have hW1 := hW0.trans (if_neg q3)
              have hFits := HFits.out q1' q2'
              have hsum : ((max 0 (at'.toNat + b.length) : Nat) : Int) = max ((0 : Nat) : Int) (at' + (b.length : Int)) := by omega
              rw [hsum] at hFits
              have HFits := Lib.hid hFits
              clear hFits HWr hsum
              generalize R.st.fits nm (max 0 (at'.toNat + b.length)) = fe at *
              by_cases q4 : fe ≠ 0
              · have HW := Lib.hid (hW1.trans (if_pos q4))
                have q4b : ((fe : Int) != 0) = true := by rw [bne_iff_ne]; omega
                clear hno' q1 q2 q3 hW0 hW1 q4
                rw [HW.out]
                go_enter Try.func30, Try.ntmps30
                go_wp2_with (first | (go_at_call 55; refine HNm.out.mono ?_; rintro e w' ⟨rfl, rfl⟩) | (go_at_call 56; refine HFind.out.mono ?_; rintro e w' ⟨rfl, rfl⟩) | (go_at_call 57; refine HFits.out.mono ?_; rintro e w1 ⟨rfl, ho1⟩))
                go_ret
                exact ⟨rfl, HSame.out _ ho1⟩
              · have hst : R.st.stops = true := by
                  rcases hno' with h1 | h1 | h1 | h1
                  · exact absurd h1 (fun hh => hh.elim q1 q2)
                  · exact absurd h1 q3
                  · exact absurd h1 q4
                  · exact h1
                have HW := Lib.hid (hW1.trans ((if_neg q4).trans (if_pos hst)))
                obtain rfl : fe = 0 := by omega
                have HT : Hid (R.tick.st = R.st.off) := Lib.hid (by rw [HTick.out, if_pos hst])
                simp only [hst, if_true] at HChg
                clear hno' q1 q2 q3 hW0 hW1 q4 hst HTick
                rw [HW.out]
                go_enter Try.func30, Try.ntmps30
                go_wp2_with (first | (go_at_call 55; refine HNm.out.mono ?_; rintro e w' ⟨rfl, rfl⟩) | (go_at_call 56; refine HFind.out.mono ?_; rintro e w' ⟨rfl, rfl⟩) | (go_at_call 57; refine HFits.out.mono ?_; rintro e w1 ⟨rfl, ho1⟩) | (go_at_call 58; refine (HChg.out w1 ho1).mono ?_; rintro e w2 ⟨rfl, hr2, ho2⟩))
                go_ret
                exact ⟨rfl, ⟨R.tick, hr2.mono fun k hk => .inl hk, HT.out⟩, (ho1.mono fun _ _ h => h.elim).trans ho2 fun _ _ h => h⟩
      · have hh := had_some hfd
        have hk := find_lt hfd
        rw [show posI nm R.st.names = (k : Int) from posI_some hfd] at HFind
        rw [hh] at HWr hno' HFits hhad
        obtain ⟨A0, cc0, hv, -, -, -⟩ := HR.out.fs.value
        obtain ⟨g, cap, hv2, -, hgw, -, -, hcell, -⟩ := fr_cells HR.out.fs (by omega)
        rw [hv2] at c5
        obtain ⟨-, x1, -, -⟩ := hcell k hk
        obtain ⟨A1, cc1, hn1, -, -, -⟩ := (HR.out.fb _ (List.getElem_mem hk)).1.value
        rw [hn1] at x1
        have hki : (k : Int) < (R.fr.length : Int) := by omega
        have hk0 : (0 : Int) ≤ (k : Int) := by omega
        clear hh hcell hn1 hv hv2
        generalize R.fr[k].now.length = m at *
        clear hfd hk
        by_cases q1 : at' < 0
        · have HW := Lib.hid (HWr.out.trans (if_pos (.inl q1)))
          clear HWr hno' HFits
          rw [HW.out]
          go_enter Try.func30, Try.ntmps30
          go_wp2_with (first | (go_at_call 55; refine HNm.out.mono ?_; rintro e w' ⟨rfl, rfl⟩) | (go_at_call 56; refine HFind.out.mono ?_; rintro e w' ⟨rfl, rfl⟩))
          go_ret
          exact ⟨rfl, HSame.out _ HRefl.out⟩
        · have q1' : 0 ≤ at' := by omega
          by_cases q2 : (m : Int) < at'
          · have HW := Lib.hid (HWr.out.trans (if_pos (.inr q2)))
            clear HWr hno' HFits q1
            rw [HW.out]
            go_enter Try.func30, Try.ntmps30
            go_wp2_with (first | (go_at_call 55; refine HNm.out.mono ?_; rintro e w' ⟨rfl, rfl⟩) | (go_at_call 56; refine HFind.out.mono ?_; rintro e w' ⟨rfl, rfl⟩))
            go_ret
            exact ⟨rfl, HSame.out _ HRefl.out⟩
          · have q2' : at' ≤ (m : Int) := by omega
            have hW0 := HWr.out.trans (if_neg (fun hh => hh.elim q1 q2))
            by_cases q3 : b = []
            · have HW := Lib.hid (hW0.trans (if_pos q3))
              clear HWr hno' HFits q1 q2 hW0
              subst q3
              rw [HW.out]
              go_enter Try.func30, Try.ntmps30
              go_wp2_with (first | (go_at_call 55; refine HNm.out.mono ?_; rintro e w' ⟨rfl, rfl⟩) | (go_at_call 56; refine HFind.out.mono ?_; rintro e w' ⟨rfl, rfl⟩))
              go_ret
              exact ⟨rfl, HSame.out _ HRefl.out⟩
            · have q3' : b.length ≠ 0 := fun e => q3 (List.eq_nil_of_length_eq_zero e)
              have q3b : ((b.length : Int) == 0) = false := by rw [beq_eq_false_iff_ne]; omega
              have hW1 := hW0.trans (if_neg q3)
              have hFits := HFits.out q1' q2'
              have hsum : ((max m (at'.toNat + b.length) : Nat) : Int) = max (m : Int) (at' + (b.length : Int)) := by omega
              rw [hsum] at hFits
              have HFits := Lib.hid hFits
              clear hFits HWr hsum
              generalize R.st.fits nm (max m (at'.toNat + b.length)) = fe at *
              by_cases q4 : fe ≠ 0
              · have HW := Lib.hid (hW1.trans (if_pos q4))
                have q4b : ((fe : Int) != 0) = true := by rw [bne_iff_ne]; omega
                clear hno' q1 q2 q3 hW0 hW1 q4
                rw [HW.out]
                go_enter Try.func30, Try.ntmps30
                go_wp2_with (first | (go_at_call 55; refine HNm.out.mono ?_; rintro e w' ⟨rfl, rfl⟩) | (go_at_call 56; refine HFind.out.mono ?_; rintro e w' ⟨rfl, rfl⟩) | (go_at_call 57; refine HFits.out.mono ?_; rintro e w1 ⟨rfl, ho1⟩))
                go_ret
                exact ⟨rfl, HSame.out _ ho1⟩
              · have hst : R.st.stops = true := by
                  rcases hno' with h1 | h1 | h1 | h1
                  · exact absurd h1 (fun hh => hh.elim q1 q2)
                  · exact absurd h1 q3
                  · exact absurd h1 q4
                  · exact h1
                have HW := Lib.hid (hW1.trans ((if_neg q4).trans (if_pos hst)))
                obtain rfl : fe = 0 := by omega
                have HT : Hid (R.tick.st = R.st.off) := Lib.hid (by rw [HTick.out, if_pos hst])
                simp only [hst, if_true] at HChg
                clear hno' q1 q2 q3 hW0 hW1 q4 hst HTick
                rw [HW.out]
                go_enter Try.func30, Try.ntmps30
                go_wp2_with (first | (go_at_call 55; refine HNm.out.mono ?_; rintro e w' ⟨rfl, rfl⟩) | (go_at_call 56; refine HFind.out.mono ?_; rintro e w' ⟨rfl, rfl⟩) | (go_at_call 57; refine HFits.out.mono ?_; rintro e w1 ⟨rfl, ho1⟩) | (go_at_call 58; refine (HChg.out w1 ho1).mono ?_; rintro e w2 ⟨rfl, hr2, ho2⟩))
                go_ret
                exact ⟨rfl, ⟨R.tick, hr2.mono fun k hk => .inl hk, HT.out⟩, (ho1.mono fun _ _ h => h.elim).trans ho2 fun _ _ h => h⟩
    · have HW : Hid (R.st.write nm at' b = (R.st, 8)) := Lib.hid (by unfold RD.write; rw [if_neg (by rw [hnm]; simp), if_pos (show R.st.down = true from hdn)])
      rw [hdn] at c4
      clear hnm hno hdn
      rw [HW.out]
      go_enter Try.func30, Try.ntmps30
      go_wp2_with (go_at_call 55; refine HNm.out.mono ?_; rintro e w' ⟨rfl, rfl⟩)
      go_ret
      exact ⟨rfl, HSame.out _ HRefl.out⟩
end Go.Proofs.Ytoihkanneiknkaa
