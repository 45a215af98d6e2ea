/- Contract: maps.DeleteFunc over the landed disk's files. Contracts of the landed disk: New, Names. Contracts of the landed disk: New, Names. Conditions: those that each theorem names. -/
import Derived.Test.YtoihkanneiknkaaDlQ
import Derived.Test.YtoihkanneiknkaaDlLaid
namespace Go.Proofs.Ytoihkanneiknkaa
open Go.RowKit Go.Maps
attribute [local go_sem ↓] Go.wp_at_zero Go.wp_at_succ

/-- The addresses of these files alone are read. -/
def ptrIn (l : List GF) (v : Value) : Option (DataW Unit × List MemPlace) := match v with
  | .pointer (some ⟨g, 0, none⟩) => if l.any (fun f => decide (f.g = g)) then some (.lit (.int .i64 (g : Int)), []) else none
  | _ => none
theorem ptrIn_inv {l : List GF} {v : Value} {y : DataW Unit × List MemPlace} (h : ptrIn l v = some y) : ∃ f ∈ l, v = .pointer (some ⟨f.g, 0, none⟩) ∧ y = (.lit (.int .i64 (f.g : Int)), []) := by
  unfold ptrIn at h
  split at h
  · rename_i g
    split at h
    · rename_i hg
      obtain ⟨f, hf, e⟩ := List.any_eq_true.1 hg
      have e : f.g = g := by simpa using e
      injection h with h
      exact ⟨f, hf, by rw [e], by rw [← h, e]⟩
    · cases h
  · cases h
theorem ptrIn_ptrR {l : List GF} {v : Value} {y : DataW Unit × List MemPlace} (h : ptrIn l v = some y) : ptrR v = some y := by
  obtain ⟨f, hf, rfl, rfl⟩ := ptrIn_inv h
  rfl
theorem ptrIn_mem {l : List GF} {f : GF} (hf : f ∈ l) : ptrIn l (.pointer (some ⟨f.g, 0, none⟩)) = some (.lit (.int .i64 (f.g : Int)), []) := by
  unfold ptrIn
  simp only
  rw [if_pos (List.any_eq_true.2 ⟨f, hf, by simp⟩)]
section
variable {w w' : World} {F G : Nat → Prop} {p b n : Nat} {L : LMem} {l : List GF}
open Go.WideElems in
set_option maxRecDepth 100000 in
theorem owns_in (h : w.ownsMap Try.prog 9 ptrR b n (dmap l)) : w.ownsMap Try.prog 9 (ptrIn l) b n (dmap l) := by
  obtain ⟨es, clock, hb, Ft, hs, hD⟩ := h
  have h1 := World.ownsMap_of_fit (R := ptrIn l) hb Ft fun x hx z hz => by
    have hmem : rg Try.prog 9 ptrR x ∈ l.map GF.kv := by
      have h2 : rg Try.prog 9 ptrR x ∈ (es.toList.map (rg Try.prog 9 ptrR)).foldr DataW.insert [] := mem_sorted.2 (List.mem_map.2 ⟨x, hx, rfl⟩)
      have h3 := DataW.map.inj hD
      rw [← h3] at h2
      exact h2
    obtain ⟨f, hf, e⟩ := List.mem_map.1 hmem
    obtain ⟨y, hy⟩ := Ft.reads x hx
    obtain ⟨z', hz', hzd⟩ := rd_val hy
    have hzz : z = z' := Option.some.inj (hz.symm.trans hz')
    subst hzz
    have e2 : z.1 = .lit (.int .i64 (f.g : Int)) := by
      rw [← hzd]
      have e5 : y.2 = (rg Try.prog 9 ptrR x).2 := by rw [rg_of hy]
      rw [e5, ← e]
      rfl
    obtain ⟨z1, z2⟩ := z
    have e4 : z1 = .lit (.int .i64 (f.g : Int)) := e2
    subst e4
    have e3 := ptrR_at hz
    rw [e3] at hz ⊢
    rw [ptrIn_mem hf, ← hz]
    rfl
  rw [← hD] at h1
  exact h1.mono hs
open Go.WideElems in
theorem owns_out {D : DataW Unit} (h : w.ownsMap Try.prog 9 (ptrIn l) b n D) : w.ownsMap Try.prog 9 ptrR b n D := by
  obtain ⟨es, clock, hb, Ft, hs, hD⟩ := h
  have h1 := (World.ownsMap_of_fit (R := ptrR) hb Ft fun x _ z hz => ptrIn_ptrR hz).mono hs
  rw [← hD] at h1
  exact h1
/-- Files are struck from the map. -/
theorem DiskM.strike (h : DiskM w F p L) (hmv : L.mv = some b) (q : GF → Bool) (hg : w.grownBy w' (some b)) (ho : w'.ownsMap Try.prog 9 ptrR b n (dmap (L.fr.filter q))) :
    DiskM w' F p { L with fr := L.fr.filter q } ∧ Only F w w' := by
  have ho1 : Only (fun k => k = b) w w' := (Only.refl _ w).grown hg fun k hk => by injection hk with hk; exact .inl hk.symm
  have hne : ∀ {T : TypeId} {k : Nat}, Kind w T k → ¬ k = b := fun hk e => h.map.ne hmv hk e.symm
  have hm : ∀ {x : GF}, x ∈ L.fr.filter q → x ∈ L.fr := fun hx => (List.mem_filter.1 hx).1
  exact ⟨{
    blk := h.blk.only ho1 (hne h.kind)
    fp := h.fp
    map := .inr ⟨b, hmv, h.map.fp hmv, owns_fit ho⟩
    file := fun f hf => (h.file f (hm hf)).off ho1 (hne (h.file f (hm hf)).kind) fun k hk => hne ((h.file f (hm hf)).own hk).1
    row := h.row.off ho1 fun k hk => hne (h.row.kind hk)
    piece := fun q hq => (h.piece q hq).off ho1 fun k hk => hne ((h.piece q hq).own hk).1
    srt := h.srt.sublist ((List.filter_sublist (l := L.fr)).map _)
    apart := fun f hf f' hf' => h.apart f (hm hf) f' (hm hf')
    clear := fun q hq k hk f hf => h.clear q hq k hk f (hm hf) }, ho1.mono fun k _ hk => hk ▸ h.map.fp hmv⟩
end
/-- Has the file in that block been safe? -/
def stB (w : World) (g : Nat) : Bool := match w.cell? ⟨g, 2, none⟩ with
  | some (.bool b) => b
  | _ => false
def pdB (w : World) (_ : Lit) (d : DataW Unit) : Bool := match d with
  | .lit (.int .i64 g) => !stB w g.toNat
  | _ => false
set_option maxHeartbeats 800000 in
theorem crashF_any (key : Value) (g : Nat) (b : Bool) (w : World) (h : w.cell? ⟨g, 2, none⟩ = some (.bool b)) :
    Calls Try.prog 50 #[key, .pointer (some ⟨g, 0, none⟩)] w fun e w' => e = .returned (.bool (!b)) ∧ w = w' := by
  rcases b with _ | _
  all_goals
    go_enter Try.func50, Try.ntmps50
    go_wp2
    go_ret
    exact ⟨rfl, rfl⟩
theorem enters_crashF : ∀ args w, (callFunc 50 args).run Try.prog w = .ok (.enter 50 args) w := enters_of Try.func50 (by kernel_rfl) rfl
set_option maxRecDepth 100000 in
theorem ldel_any (F : Nat → Prop) (p : Nat) (L : LMem) (w : World) (h : DiskM w F p L) (mv : Option Nat) (hmv0 : L.mv = mv) :
    Calls Try.prog 49 #[.map mv, .func (.func 50) #[] #[]] w fun e w' => e = .returned (.tuple #[]) ∧ DiskM w' F p { L with fr := L.fr.filter (·.sure) } ∧ Only F w w' := by
  rcases h.map with ⟨hmv, hfr⟩ | ⟨b, hmv, hb, hm⟩
  · obtain rfl : mv = none := hmv0.symm.trans hmv
    refine (AnyDf.maps_DeleteFunc_nil delLaid _ w).mono fun e w' ⟨he, hw⟩ => ⟨he, ?_, ?_⟩
    · have e2 : ({ L with fr := L.fr.filter (·.sure) } : LMem) = L := by rw [hfr]; cases L; simp at hfr; subst hfr; rfl
      rw [e2, hw]
      exact h.below ((Below.refl _ _).alloc (Nat.le_refl _) _)
    · rw [hw]
      exact (Only.refl F w).alloc _
  · obtain rfl : mv = some b := hmv0.symm.trans hmv
    refine (AnyDf.maps_DeleteFunc delLaid strKey (ptrIn L.fr) (pdB w) 50 #[] b L.fr.length (dmap L.fr) w enters_crashF (owns_in hm) (fun W key val kl yd yp hg hk hv => ?_)).mono fun e w' ⟨he, ho, hg⟩ => ⟨he, ?_⟩
    · obtain ⟨f, hf, rfl, e⟩ := ptrIn_inv hv
      injection e with e1 e2
      subst e1
      have hff := h.file f hf
      have hc : W.cell? ⟨f.g, 2, none⟩ = some (.bool f.sure) := (World.cell?_of_block (hg.block f.g hff.blk.lt fun e => h.map.ne hmv hff.kind (by injection e with e; exact e.symm))).trans hff.cells.2.2
      have hst : pdB w kl (.lit (.int .i64 (f.g : Int))) = !f.sure := by
        unfold pdB stB
        simp only [Int.toNat_natCast]
        rw [hff.cells.2.2]
      rw [hst]
      exact (crashF_any key f.g f.sure W hc).mono fun e w' ⟨he, hw⟩ => ⟨he, hw ▸ World.grownBy.refl _ _⟩
    · have ho2 := owns_out ho
      rw [dmap_filter] at ho2
      have e : (L.fr.filter fun f => !pdB w f.key (.lit (.int .i64 (f.g : Int)))) = L.fr.filter (·.sure) := List.filter_congr fun f hf => by
        unfold pdB stB
        simp only [Int.toNat_natCast]
        rw [(h.file f hf).cells.2.2]
        simp
      rw [e] at ho2
      exact h.strike hmv (·.sure) hg ho2
end Go.Proofs.Ytoihkanneiknkaa

namespace Go.Proofs.Ytoihkanneiknkaa
open Go.RowKit Go.Maps Go.Sort Go.Shelf
attribute [local go_sem ↓] Go.wp_at_zero Go.wp_at_succ

theorem names_sorts (m : Nat) : AnyZ.SortsIn Try.prog sortedLaid_ren Fence.wide m :=
  ⟨fun blk off cap ss W hH hblk hsz => callsIn_wide.2 (AnyM.slices_Sort_string sortLaid blk off cap ss W hH hblk hsz),
   fun p cap W => callsIn_wide.2 (AnyM.slices_Sort_string_none sortLaid p cap W)⟩
theorem keys_call (mb : Option Nat) (W : World) : Calls Try.prog 53 #[.map mb] W fun e w' => e = .returned (.func (.func 67) #[] #[.pointer (some ⟨W.heap.size, 0, none⟩)]) ∧ w' = W.alloc (.cells #[.map mb] 63) :=
  callsIn_wide.1 (AnyZ.keys_in keysLaid Fence.wide 5 trivial rfl mb W)
/-- A permutation of a rising row of names, sorted, is that row. -/
theorem sort_names {l : List ByteArray} (hs : l.Pairwise bLt) {ss : List (List UInt8)} (hp : ss.Perm (l.map fun s => s.data.toList)) : ss.mergeSort (fun x y => decide (x ≤ y)) = l.map fun s => s.data.toList := by
  refine List.Perm.eq_of_pairwise (le := fun a b => decide (a ≤ b) = true) (fun a b _ _ h1 h2 => List.le_antisymm (by simpa using h1) (by simpa using h2)) (List.pairwise_mergeSort (fun a b c h1 h2 => ?_) (fun a b => ?_) ss) ?_ ((List.mergeSort_perm ss _).trans hp)
  · simp only [decide_eq_true_eq] at h1 h2 ⊢
    exact List.le_trans h1 h2
  · simp only [Bool.or_eq_true, decide_eq_true_eq]
    exact List.le_total a b
  · rw [List.pairwise_map]
    exact hs.imp fun {a b} h => by
      simp only [decide_eq_true_eq]
      exact List.le_of_lt h
set_option maxHeartbeats 1000000 in
/-- The names of the files, sorted. -/
theorem sorted_call (mv : Option Nat) (l : List GF) (F : Nat → Prop) (w : World) (h : MapIs w F mv l) (hs : (l.map (·.name)).Pairwise bLt) (hl : l.length ≤ 16) :
    Calls Try.prog 52 #[.func (.func 67) #[] #[.pointer (some ⟨w.heap.size, 0, none⟩)]] (w.alloc (.cells #[.map mv] 63)) fun e w' => ∃ v, e = .returned v ∧ w'.ownsRow w.heap.size 9 1 v l.length (l.map fun f => .string f.name) ∧ Below w.heap.size w w' := by
  have hb0 : Below w.heap.size w (w.alloc (.cells #[.map mv] 63)) := (Below.refl _ _).alloc (Nat.le_refl _) _
  have hin : ∀ (P : List (List UInt8) → Prop) (m : Nat), m ≤ 16 → SeqGives Fence.wide 2 Try.prog 67 #[.pointer (some ⟨w.heap.size, 0, none⟩)] encStr P m (w.alloc (.cells #[.map mv] 63)) → (∀ ss, P ss → ss.Perm (l.map fun f => f.name.data.toList)) →
      Calls Try.prog 52 #[.func (.func 67) #[] #[.pointer (some ⟨w.heap.size, 0, none⟩)]] (w.alloc (.cells #[.map mv] 63)) fun e w' => ∃ v, e = .returned v ∧ w'.ownsRow w.heap.size 9 1 v l.length (l.map fun f => .string f.name) ∧ Below w.heap.size w w' := fun P m hm hseq hP => by
    have h1 := callsIn_wide.1 (AnyZ.sorted_in sortedLaid Fence.wide 5 trivial trivial trivial trivial rfl (by omega) (names_sorts _) (enters_of Try.func66 (by kernel_rfl) rfl) 67 #[.pointer (some ⟨w.heap.size, 0, none⟩)] trivial (enters_of Try.func67 (by kernel_rfl) rfl) _ m (by unfold maxLen; omega) (by omega) _ hseq)
    refine h1.mono fun e w' ⟨v, ss, he, hp, ho, _, hb⟩ => ⟨v, he, ?_, hb0.trans (hb.mono (by simp))⟩
    have hp2 := hP ss hp
    have hlen : ss.length = l.length := by rw [hp2.length_eq, List.length_map]
    have hso := sort_names hs (ss := ss) (by rw [List.map_map]; exact hp2)
    rw [hso, hlen] at ho
    have e2 : ((l.map (·.name)).map fun s => s.data.toList).map encStr = l.map fun f => .string f.name := by
      rw [List.map_map, List.map_map]
      refine List.map_congr_left fun f _ => ?_
      show encStr f.name.data.toList = .string f.name
      unfold encStr
      rfl
    rw [e2] at ho
    exact own_base ho (by simp)
  rcases h with ⟨rfl, rfl⟩ | ⟨b, rfl, _, hm⟩
  · exact hin (fun ss => ss = []) 0 (by omega) (AnyZ.keys_gives_nil (ρ := keysLaid_ren) { keysLaid with } Fence.wide _ trivial rfl w.heap.size _ (by simp) ((Blk.new w 63 #[.map none]).cell 0)) fun ss e => by rw [e]; exact List.Perm.refl _
  · have hsz : Maps.size (dmap l) = l.length := dmap_size l
    have hseq := AnyZ.keys_gives (ρ := keysLaid_ren) { keysLaid with } Fence.wide 2 trivial rfl (by omega) w.heap.size b l.length (dmap l) (R := ptrR) (w.alloc (.cells #[.map (some b)] 63)) (by simp) ((Blk.new w 63 #[.map (some b)]).cell 0) (hm.alloc _)
    refine hin _ (Maps.size (dmap l)) (by omega) hseq fun ss hp => ?_
    have e : strKeys (dmap l) = l.map fun f => f.name.data.toList := by
      unfold strKeys dmap
      simp only [List.map_map]
      rfl
    rw [← e]
    exact hp
end Go.Proofs.Ytoihkanneiknkaa

namespace Go.Proofs.Ytoihkanneiknkaa
open Go.RowKit Go.Maps
attribute [local go_sem ↓] Go.wp_at_zero Go.wp_at_succ

set_option maxRecDepth 100000 in
set_option maxHeartbeats 1600000 in
theorem lnames_any (F : Nat → Prop) (p : Nat) (L : LMem) (w : World) (h : DiskM w F p L) (hl : L.fr.length ≤ 16) :
    Calls Try.prog 24 #[.pointer (some ⟨p, 0, none⟩)] w fun e w' => ∃ v, e = .returned v ∧ w'.ownsRow w.heap.size 9 1 v (if L.down then [] else L.fr).length ((if L.down then [] else L.fr).map fun f => .string f.name) ∧ Below w.heap.size w w' := by
  obtain ⟨-, c1, -, -, -, -, c6⟩ := h.cells
  rcases hdn : L.down with _ | _
  · rw [hdn] at c6
    have HS := Lib.hid (sorted_call L.mv L.fr F w h.map h.srt hl)
    have HK := Lib.hid (keys_call L.mv w)
    clear h hdn
    simp only [Bool.false_eq_true, if_false]
    go_enter Try.func24, Try.ntmps24
    go_wp2_with (first | (go_at_call 53; refine HK.out.mono ?_; rintro e w' ⟨rfl, rfl⟩) | (go_at_call 52; refine HS.out.mono ?_; rintro e w1 ⟨v, rfl, ho1, hb1⟩))
    go_ret
    exact ⟨v, rfl, ho1, hb1⟩
  · rw [hdn] at c6
    clear h hdn
    simp only [if_true]
    go_enter Try.func24, Try.ntmps24
    go_wp2
    go_ret
    exact ⟨_, rfl, own_nil _ _ _ _, Below.refl _ _⟩

def LMem.new (room : Int) : LMem := ⟨room, 0, 0, false, false, none, .slice none 0 0, [], []⟩
theorem disk_made (w : World) (room : Int) : DiskM (w.alloc (.cells (LMem.new room).blkOf 66)) (fun k => k = w.heap.size) w.heap.size (LMem.new room) where
  blk := Blk.new _ _ _
  fp := rfl
  map := .inl ⟨rfl, rfl⟩
  file := fun f hf => by cases hf
  row := row_nil _ _ _ _ _
  piece := fun q hq => by cases hq
  srt := List.Pairwise.nil
  apart := fun f hf => by cases hf
  clear := fun q hq => by cases hq
set_option maxRecDepth 100000 in
set_option maxHeartbeats 1600000 in
theorem lnew_no (room : Int) (w : World) (h : room < 0 ∨ 1099511627776 < room) :
    Calls Try.prog 8 #[.int .i64 room] w fun e w' => e = .returned (.tuple #[.pointer none, .int .i64 1]) ∧ Below w.heap.size w w' := by
  have hways : room < 0 ∨ 0 ≤ room ∧ 1099511627776 < room := by omega
  clear h
  rcases hways with h | ⟨h0, h⟩
  all_goals
    go_enter Try.func8, Try.ntmps8
    go_wp2
    go_ret2
    exact ⟨rfl, Below.refl _ _⟩
set_option maxRecDepth 100000 in
set_option maxHeartbeats 1600000 in
theorem lnew_yes (room : Int) (w : World) (h0 : 0 ≤ room) (h1 : room ≤ 1099511627776) :
    Calls Try.prog 8 #[.int .i64 room] w fun e w' => e = .returned (.tuple #[.pointer (some ⟨w.heap.size, 0, none⟩), .int .i64 0]) ∧ w' = w.alloc (.cells (LMem.new room).blkOf 66) := by
  go_enter Try.func8, Try.ntmps8
  go_wp2
  go_ret2
  exact ⟨rfl, rfl⟩
end Go.Proofs.Ytoihkanneiknkaa
