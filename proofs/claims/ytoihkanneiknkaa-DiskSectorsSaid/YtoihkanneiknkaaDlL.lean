/- Contracts: the closure of taken, slices.IndexFunc and slices.DeleteFunc over pieces. Contract of the landed disk's taken. Plain facts on the abstract disk: a write is its pieces, one behind the other; what is seen is what is safe with all that waits. Conditions: those that each theorem names. -/
import Derived.Test.YtoihkanneiknkaaDlJ
import Derived.Shelf.Abstract
namespace Go.Proofs.Ytoihkanneiknkaa
open Go.RowKit Go.Maps
attribute [local go_sem ↓] Go.wp_at_zero Go.wp_at_succ

def isOf (nm : ByteArray) (q : PR) : Bool := decide (q.name = nm)
set_option maxHeartbeats 800000 in
theorem takenF_any (nm x : ByteArray) (a : Int) (A : Option Addr) (n c : Nat) (cut : Bool) (B : Nat) (w : World) (h : w.cell? ⟨B, 0, none⟩ = some (.string nm)) :
    Calls Try.prog 64 #[.agg #[.string x, .int .i64 a, .slice A n c, .bool cut], .pointer (some ⟨B, 0, none⟩)] w fun e w' => e = .returned (.bool (decide (x = nm))) ∧ Below w.heap.size w w' := by
  have hB : B < w.heap.size := World.block_lt_of_cell? w _ h
  by_cases he : x = nm
  · have hb := str_yes he
    have HE : Hid (decide (x = nm) = true) := decide_eq_true he
    rw [HE.out]
    clear he
    go_enter Try.func64, Try.ntmps64
    go_wp2
    go_ret
    exact ⟨rfl, (Below.refl _ _).alloc (Nat.le_refl _) _⟩
  · have hb := str_no he
    have HE : Hid (decide (x = nm) = false) := decide_eq_false he
    rw [HE.out]
    clear he
    go_enter Try.func64, Try.ntmps64
    go_wp2
    go_ret
    exact ⟨rfl, (Below.refl _ _).alloc (Nat.le_refl _) _⟩
theorem enters_taken : ∀ args w, (callFunc 64 args).run Try.prog w = .ok (.enter 64 args) w := enters_of Try.func64 (by kernel_rfl) rfl

/-- The first piece of a name; -1: there is none. -/
def firstI (nm : ByteArray) (l : List PR) : Int := match l.findIdx? (isOf nm) with
  | some k => (k : Int)
  | none => -1
/-- Pieces whose bytes are slices. -/
def Sliced (l : List PR) : Prop := ∀ q ∈ l, ∃ A n c, q.bv = .slice A n c

set_option maxRecDepth 100000 in
set_option maxHeartbeats 1600000 in
theorem indexF_any (nm : ByteArray) (l : List PR) (hsl : Sliced l) (F : Nat → Prop) (A : Option Addr) (c B : Nat) (w : World) (h : Row w F 88 4 encP (.slice A l.length c) l) (hl : l.length ≤ 549755813888) (hB : w.cell? ⟨B, 0, none⟩ = some (.string nm)) :
    Calls Try.prog 68 #[.slice A l.length c, .func (.func 64) #[] #[.pointer (some ⟨B, 0, none⟩)]] w fun e w' => e = .returned (.int .i64 (firstI nm l)) ∧ Below w.heap.size w w' := by
  have HR := Lib.hid h
  have HSl := Lib.hid hsl
  have hBlt : B < w.heap.size := World.block_lt_of_cell? w _ hB
  have HB := Lib.hid hB
  have eg := enters_taken
  clear h hsl hB
  go_enter Try.func68, Try.ntmps68
  go_wp2
  go_loopw [8] (fun s8 wr => ∃ k : Nat, k ≤ l.length ∧ s8 = .int .i64 (k : Int) ∧ Hid (∀ j (hj : j < k) (hl : j < l.length), (l[j]'hl).name ≠ nm) ∧ Hid (Below w.heap.size w wr)) (fun s8 _ => l.length - (intOf s8).toNat)
  case atStart => exact ⟨0, Nat.zero_le _, rfl, Lib.hid (fun j hj => by omega), Lib.hid (Below.refl _ _)⟩
  case round =>
    obtain ⟨k, hk, rfl, HN, HBel⟩ := hrel
    by_cases hlt : k < l.length
    · have hi : (k : Int) < (l.length : Int) := by omega
      have hpos : 0 < l.length := by omega
      have hrow := HR.out.only (Only.of_below (F := fun _ => False) HBel.out) fun _ _ => id
      obtain ⟨g, cap, hv2, -, hgw, -, -, hcell, -⟩ := lpr_cells hrow hpos
      obtain ⟨rfl, rfl⟩ : A = some ⟨g, 0, none⟩ ∧ c = cap := by simpa using hv2
      obtain ⟨x0, x1, x2, x3⟩ := hcell k hlt
      obtain ⟨Aq, nq', cq, hbv⟩ := HSl.out _ (List.getElem_mem hlt)
      rw [hbv] at x2
      have HN1 : Hid (l[k].name ≠ nm → ∀ j (hj : j < k + 1) (hl : j < l.length), (l[j]'hl).name ≠ nm) := Lib.hid (fun he j hj hl => by
        rcases Nat.lt_or_eq_of_le (Nat.le_of_lt_succ hj) with h1 | rfl
        · exact HN.out j h1 hl
        · exact he)
      have HY : Hid (l[k].name = nm → firstI nm l = k) := Lib.hid (fun he => by
        unfold firstI
        have : l.findIdx? (isOf nm) = some k := by
          rw [List.findIdx?_eq_some_iff_getElem]
          exact ⟨hlt, by simp [isOf, he], fun j hj => by simp [isOf, HN.out j hj (by omega)]⟩
        rw [this])
      clear hcell hv2 hrow hbv
      have HCall := Lib.hid (fun W (hb : Below w.heap.size w W) => takenF_any nm l[k].name l[k].at' Aq nq' cq l[k].cut B W ((hb.cell (p := ⟨B, 0, none⟩) hBlt).trans HB.out))
      generalize l[k].name = x at *
      generalize l[k].at' = xa at *
      generalize l[k].cut = xc at *
      by_cases he : x = nm
      · have HE := Lib.hid (HY.out he)
        have HD : Hid (decide (x = nm) = true) := decide_eq_true he
        rw [HD.out] at HCall
        clear he HY HN1
        go_wp2_with (go_at_call 64; refine (HCall.out _ HBel.out).mono ?_; rintro e w3 ⟨rfl, hb3⟩; have HB3 : Hid (Below w.heap.size w w3) := Lib.hid (HBel.out.trans (hb3.mono HBel.out.size)); clear hb3)
        go_ret
        rw [HE.out]
        exact ⟨rfl, HB3.out⟩
      · have HE := Lib.hid (HN1.out he)
        have HD : Hid (decide (x = nm) = false) := decide_eq_false he
        rw [HD.out] at HCall
        clear he HY HN1
        go_wp2_with (go_at_call 64; refine (HCall.out _ HBel.out).mono ?_; rintro e w3 ⟨rfl, hb3⟩; have HB3 : Hid (Below w.heap.size w w3) := Lib.hid (HBel.out.trans (hb3.mono HBel.out.size)); clear hb3)
        go_roundw
        case rel => exact ⟨k + 1, by omega, by go_num, HE, HB3⟩
        case measure => first | omega | (simp [intOf]; omega)
    · obtain rfl : k = l.length := by omega
      have HE : Hid (firstI nm l = -1) := Lib.hid (by
        unfold firstI
        have : l.findIdx? (isOf nm) = none := by
          rw [List.findIdx?_eq_none_iff]
          intro q hq
          obtain ⟨j, hj, rfl⟩ := List.getElem_of_mem hq
          simp [isOf, HN.out j hj hj]
        rw [this])
      clear hlt
      go_wp2
      go_ret
      rw [HE.out]
      exact ⟨rfl, HBel.out⟩

/-! ### Pieces are struck -/
theorem own_set4 {w : World} {g n c : Nat} {cur : List PR} (h : w.ownsRow 0 88 4 (.slice (some ⟨g, 0, none⟩) n c) n (flat encP cur)) (hn : cur.length = n) (i : Nat) (hi : i < n) (q : PR) :
    ((((w.setCell ⟨g, i * 4, none⟩ (.string q.name)).setCell ⟨g, i * 4 + 1, none⟩ (.int .i64 (q.at' : Int))).setCell ⟨g, i * 4 + 2, none⟩ q.bv).setCell ⟨g, i * 4 + 3, none⟩ (.bool q.cut)).ownsRow 0 88 4 (.slice (some ⟨g, 0, none⟩) n c) n (flat encP (cur.set i q)) := by
  subst hn
  have h0 : Row w (fun _ => True) 88 4 encP (.slice (some ⟨g, 0, none⟩) cur.length c) cur := ⟨h, fun _ _ => trivial⟩
  have e1 : ∀ x, (cur.set i x)[i]'(by simpa using hi) = x := fun x => by simp
  have h1 := h0.set encP_len (g := g) rfl i hi 0 (by omega) (.string q.name) { cur[i] with name := q.name } rfl
  have h2 := h1.set encP_len (g := g) rfl i (by simpa using hi) 1 (by omega) (.int .i64 (q.at' : Int)) { cur[i] with name := q.name, at' := q.at' } (by rw [e1]; rfl)
  rw [List.set_set] at h2
  have h3 := h2.set encP_len (g := g) rfl i (by simpa using hi) 2 (by omega) q.bv { cur[i] with name := q.name, at' := q.at', bv := q.bv } (by rw [e1]; rfl)
  rw [List.set_set] at h3
  have h4 := h3.set encP_len (g := g) rfl i (by simpa using hi) 3 (by omega) (.bool q.cut) q (by rw [e1]; rfl)
  rw [List.set_set] at h4
  have h5 := h4.own
  rw [List.length_set] at h5
  exact h5
/-- What has been kept. -/
structure KeptP (nm : ByteArray) (l cur : List PR) (i j : Nat) : Prop where
  len : cur.length = l.length
  done : cur.take i = (l.take j).filter fun q => !isOf nm q
  high : ∀ m, j ≤ m → cur[m]? = l[m]?
  lt : i < j
theorem KeptP.skip {nm : ByteArray} {l cur : List PR} {i j : Nat} (h : KeptP nm l cur i j) (hj : j < l.length) (hq : isOf nm l[j] = true) : KeptP nm l cur i (j + 1) :=
  ⟨h.len, by rw [List.take_succ_eq_append_getElem hj, List.filter_append, ← h.done]; simp [hq], fun m hm => h.high m (by omega), by have := h.lt; omega⟩
theorem KeptP.keep {nm : ByteArray} {l cur : List PR} {i j : Nat} (h : KeptP nm l cur i j) (hj : j < l.length) (hq : isOf nm l[j] = false) : KeptP nm l (cur.set i l[j]) (i + 1) (j + 1) := by
  have hi : i < cur.length := by have := h.lt; have := h.len; omega
  refine ⟨by rw [List.length_set]; exact h.len, ?_, fun m hm => ?_, by have := h.lt; omega⟩
  · rw [List.take_succ_eq_append_getElem hj, List.filter_append, ← h.done, List.take_succ_eq_append_getElem (by rw [List.length_set]; exact hi)]
    have hq' : l[j].name ≠ nm := by simpa [isOf] using hq
    have e : (cur.set i l[j]).take i = cur.take i := by rw [List.take_set, List.set_eq_of_length_le (by simp; omega)]
    rw [e]
    simp [isOf, hq']
  · rw [List.getElem?_set_ne (by have := h.lt; omega)]
    exact h.high m (by omega)
theorem kept_start {nm : ByteArray} {l : List PR} {k : Nat} (h : l.findIdx? (isOf nm) = some k) : KeptP nm l l k (k + 1) := by
  rw [List.findIdx?_eq_some_iff_getElem] at h
  obtain ⟨hk, h1, h2⟩ := h
  refine ⟨rfl, ?_, fun _ _ => rfl, by omega⟩
  rw [List.take_succ_eq_append_getElem hk, List.filter_append]
  have e : (l.take k).filter (fun q => !isOf nm q) = l.take k := List.filter_eq_self.2 fun q hq => by
    obtain ⟨j, hj, rfl⟩ := List.getElem_of_mem hq
    simp only [List.length_take] at hj
    simp only [List.getElem_take]
    have := h2 j (by omega)
    simpa using this
  rw [e]
  simp [h1]
theorem kept_end {nm : ByteArray} {l cur : List PR} {i : Nat} (h : KeptP nm l cur i l.length) : cur.take i = l.filter (fun q => !isOf nm q) ∧ (l.filter (fun q => !isOf nm q)).length = i ∧ i < l.length := by
  have h1 := h.done
  rw [List.take_length] at h1
  have h2 := congrArg List.length h1
  rw [List.length_take] at h2
  have := h.lt
  have := h.len
  exact ⟨h1, by omega, by omega⟩
def zeroP : Value := .agg #[.string ByteArray.empty, .int .i64 0, .slice none 0 0, .bool false]
theorem zeroPiece (w : World) : (zeroValue 88).run Try.prog w = .ok zeroP w := by kernel_rfl
theorem zeroP_cells (n : Nat) : (Builtin.zeroCells zeroP.cells n).toList.length = n * 4 ∧ ∀ u ∈ (Builtin.zeroCells zeroP.cells n).toList, u.oneCell' = true := by
  have e : zeroP.cells = #[.string ByteArray.empty, .int .i64 0, .slice none 0 0, .bool false] := rfl
  constructor
  · rw [Array.length_toList, size_zeroCells, e]
    rfl
  · intro u hu
    unfold Builtin.zeroCells at hu
    rw [e] at hu
    simp only [Array.toList_map, Array.toList_range, List.mem_map] at hu
    obtain ⟨i, _, rfl⟩ := hu
    have h4 : i % 4 = 0 ∨ i % 4 = 1 ∨ i % 4 = 2 ∨ i % 4 = 3 := by omega
    show (#[Value.string ByteArray.empty, .int .i64 0, .slice none 0 0, .bool false][i % 4]!).oneCell' = true
    rcases h4 with h | h | h | h <;> rw [h] <;> rfl
/-- A row's end is cleared. -/
theorem clear_row {w : World} {g n c i : Nat} {cur : List PR} (h : w.ownsRow 0 88 4 (.slice (some ⟨g, 0, none⟩) n c) n (flat encP cur)) (hn : cur.length = n) (hi : i < n) :
    ∃ w', (∀ ty c', (Builtin.clear_ #[64] ty #[.slice (some ⟨g, i * 4, none⟩) (n - i) c']).run Try.prog w = .ok (.tuple #[]) w') ∧ w'.ownsRow 0 88 4 (.slice (some ⟨g, 0, none⟩) i c) i (flat encP (cur.take i)) ∧ w.grownBy w' (some g) := by
  rcases h.2 with ⟨e, _⟩ | ⟨g', cap, arr, e, hb, hg, hnc, hcm, hsz, ht⟩
  · cases e
  · injection e with e1 _ e3
    injection e1 with e1
    injection e1 with e1
    subst e1
    subst e3
    obtain ⟨z1, z2⟩ := zeroP_cells (n - i)
    have hst := run_storeCells_at Try.prog g (i * 4) 88 (Builtin.zeroCells zeroP.cells (n - i)).toList 0 arr w hg (by rw [z1]; omega) z2
    simp only [Nat.add_zero] at hst
    obtain ⟨arr2, h2⟩ : ∃ a, a = (arr.toList.take (i * 4) ++ (Builtin.zeroCells zeroP.cells (n - i)).toList ++ arr.toList.drop (i * 4 + (Builtin.zeroCells zeroP.cells (n - i)).toList.length)).toArray := ⟨_, rfl⟩
    rw [← h2] at hst
    refine ⟨w.setRow g arr2, fun ty c' => ?_, ⟨?_, .inr ⟨g, c, arr2, rfl, hb, setRow_heap w g arr arr2 _ _ hg, by omega, hcm, ?_, ?_⟩⟩, ⟨rfl, rfl, rfl, by simp, fun k _ hk => setRow_other w g k _ (fun e => hk (by rw [e]))⟩⟩
    · obtain ⟨m, hm⟩ : ∃ m, n - i = m + 1 := ⟨n - i - 1, by omega⟩
      rw [hm] at hst ⊢
      simp [Builtin.clear_, run_underlying Try.underlying64]
      rw [show (Sem.run Try.prog (storeCells ⟨g, i * 4, none⟩ (Builtin.zeroCells (Value.agg #[Value.string { data := #[] }, .int .i64 0, .slice none 0 0, .bool false]).cells (m + 1)).toList) w) = _ from hst]
      rfl
    · rw [flat_length encP_len, List.length_take, hn, Nat.min_eq_left (by omega)]
    · rw [h2]
      simp only [List.size_toArray, List.length_append, List.length_take, List.length_drop, Array.length_toList, z1]
      omega
    · rw [h2]
      show List.take (i * 4) (arr.toList.take (i * 4) ++ _ ++ _) = _
      rw [← flat_take encP_len, ← ht, List.append_assoc, List.take_append_of_le_length (by simp; omega), List.take_take, List.take_take]
      congr 1
      omega

/-- What striking leaves. -/
def StruckAt (v : Value) (fil : List PR) (w : World) (e : Ending) (w' : World) : Prop := ∃ v', e = .returned v' ∧ w'.ownsRow 0 88 4 v' fil.length (flat encP fil) ∧ w.grownBy w' v.ownBlock ∧ v'.ownBlock = v.ownBlock

set_option maxRecDepth 100000 in
set_option maxHeartbeats 4000000 in
theorem deleteF_any (nm : ByteArray) (l : List PR) (hsl : Sliced l) (A : Option Addr) (c B : Nat) (w : World) (h : w.ownsRow 0 88 4 (.slice A l.length c) l.length (flat encP l)) (hl : l.length ≤ 549755813888) (hB : w.cell? ⟨B, 0, none⟩ = some (.string nm)) (hne : (Value.slice A l.length c).ownBlock ≠ some B) :
    Calls Try.prog 63 #[.slice A l.length c, .func (.func 64) #[] #[.pointer (some ⟨B, 0, none⟩)]] w fun e w' => StruckAt (.slice A l.length c) (l.filter fun q => !isOf nm q) w e w' := by
  have HR : Hid (Row w (fun _ => True) 88 4 encP (.slice A l.length c) l) := Lib.hid ⟨h, fun _ _ => trivial⟩
  have HI := Lib.hid (indexF_any nm l hsl _ A c B w HR.out hl hB)
  have hBlt : B < w.heap.size := World.block_lt_of_cell? w _ hB
  have HB := Lib.hid hB
  have HSl := Lib.hid hsl
  have HNe := Lib.hid hne
  have HO := Lib.hid h
  clear h hsl hB hne
  rcases hfi : l.findIdx? (isOf nm) with _ | k0
  · have e1 : firstI nm l = -1 := by unfold firstI; rw [hfi]
    have HE : Hid (∀ w1, Below w.heap.size w w1 → StruckAt (.slice A l.length c) (l.filter fun q => !isOf nm q) w (.returned (.slice A l.length c)) w1) := Lib.hid (fun w1 hb => by
      have e2 : l.filter (fun q => !isOf nm q) = l := List.filter_eq_self.2 fun q hq => by
        have := List.findIdx?_eq_none_iff.1 hfi q hq
        simp [this]
      rw [e2]
      exact ⟨_, rfl, own_only HO.out (Only.of_below (F := fun _ => False) hb) fun _ _ => id, only_of_below hb _, rfl⟩)
    rw [e1] at HI
    clear hfi e1
    go_enter Try.func63, Try.ntmps63
    go_wp2_with (go_at_call 68; refine HI.out.mono ?_; rintro e w1 ⟨rfl, hb1⟩)
    go_ret
    exact HE.out w1 hb1
  · have e1 : firstI nm l = (k0 : Int) := by unfold firstI; rw [hfi]
    have hk0 := (List.findIdx?_eq_some_iff_getElem.1 hfi).1
    have HK0 := Lib.hid (kept_start hfi)
    obtain ⟨g, cap, hv, -, hgw, hlc, hcm, -, -⟩ := lpr_cells HR.out (by omega)
    obtain ⟨rfl, rfl⟩ : A = some ⟨g, 0, none⟩ ∧ c = cap := by simpa using hv
    rw [e1] at HI
    have eg := enters_taken
    unfold maxLen at hcm
    have hne1 : ((k0 : Int) == -1) = false := beq_eq_false_iff_ne.2 (by omega)
    clear hfi e1 hv
    go_enter Try.func63, Try.ntmps63
    go_wp2_with (go_at_call 68; refine HI.out.mono ?_; rintro e w1 ⟨rfl, hb1⟩)
    have HG1 : Hid (w.grownBy w1 (some g)) := Lib.hid (only_of_below hb1 _)
    have HO1 : Hid (w1.ownsRow 0 88 4 (.slice (some ⟨g, 0, none⟩) l.length c) l.length (flat encP l)) := Lib.hid (own_only HO.out (Only.of_below (F := fun _ => False) hb1) fun _ _ => id)
    clear hb1
    go_loopw [5, 6] (fun s5 s6 wr => ∃ (i j : Nat) (cur : List PR), s5 = .int .i64 (i : Int) ∧ s6 = .int .i64 (j : Int) ∧ j ≤ l.length ∧ Hid (KeptP nm l cur i j) ∧ Hid (wr.ownsRow 0 88 4 (.slice (some ⟨g, 0, none⟩) l.length c) l.length (flat encP cur)) ∧ Hid (w.grownBy wr (some g))) (fun _ s6 _ => l.length - (intOf s6).toNat)
    case atStart => exact ⟨k0, k0 + 1, l, rfl, by go_num, by omega, HK0, HO1, HG1⟩
    case round =>
      obtain ⟨i, j, cur, rfl, rfl, hj, HK, HOw, HG⟩ := hrel
      have hij := HK.out.lt
      by_cases hlt : j < l.length
      · have hi : (j : Int) < (l.length : Int) := by omega
        have hil : i < l.length := by omega
        have hii : (i : Int) < (l.length : Int) := by omega
        have hclen := HK.out.len
        have hjc : j < cur.length := by omega
        have hic : i < cur.length := by omega
        have hcj : cur[j] = l[j] := by
          have := HK.out.high j (Nat.le_refl _)
          rw [List.getElem?_eq_getElem hjc, List.getElem?_eq_getElem hlt] at this
          injection this
        have hrow : Row wr (fun _ => True) 88 4 encP (.slice (some ⟨g, 0, none⟩) cur.length c) cur := ⟨by rw [hclen]; exact HOw.out, fun _ _ => trivial⟩
        obtain ⟨g', cap', hv', -, hgr, -, -, hcell, -⟩ := lpr_cells hrow (by omega)
        obtain ⟨rfl, rfl⟩ : g = g' ∧ c = cap' := by simpa using hv'
        obtain ⟨x0, x1, x2, x3⟩ := hcell j hjc
        obtain ⟨y0, y1, y2, y3⟩ := hcell i hic
        rw [hcj] at x0 x1 x2 x3
        obtain ⟨Aq, nq', cq, hbv⟩ := HSl.out _ (List.getElem_mem hlt)
        rw [hbv] at x2
        have hBr : wr.cell? ⟨B, 0, none⟩ = some (.string nm) := HG.out.cell HB.out (fun e => HNe.out (by rw [e]; rfl))
        have HCall := Lib.hid (fun W (hb : Below wr.heap.size wr W) => takenF_any nm l[j].name l[j].at' Aq nq' cq l[j].cut B W ((hb.cell (p := ⟨B, 0, none⟩) (World.block_lt_of_cell? wr _ hBr)).trans hBr))
        have HSet : Hid (∀ w3, Below wr.heap.size wr w3 → ((((w3.setCell ⟨g, i * 4, none⟩ (.string l[j].name)).setCell ⟨g, i * 4 + 1, none⟩ (.int .i64 (l[j].at' : Int))).setCell ⟨g, i * 4 + 2, none⟩ (.slice Aq nq' cq)).setCell ⟨g, i * 4 + 3, none⟩ (.bool l[j].cut)).ownsRow 0 88 4 (.slice (some ⟨g, 0, none⟩) l.length c) l.length (flat encP (cur.set i l[j])) ∧
            w.grownBy ((((w3.setCell ⟨g, i * 4, none⟩ (.string l[j].name)).setCell ⟨g, i * 4 + 1, none⟩ (.int .i64 (l[j].at' : Int))).setCell ⟨g, i * 4 + 2, none⟩ (.slice Aq nq' cq)).setCell ⟨g, i * 4 + 3, none⟩ (.bool l[j].cut)) (some g)) := Lib.hid (fun w3 hb3 => by
          have h1 := own_only HOw.out (Only.of_below (F := fun _ => False) hb3) fun _ _ => id
          have h2 := own_set4 h1 hclen i hil l[j]
          rw [hbv] at h2
          have h3 : w.grownBy w3 (some g) := HG.out.andThen (only_of_below hb3 none) fun j hj => by cases hj
          exact ⟨h2, only_setCell (only_setCell (only_setCell (only_setCell h3 (p := ⟨g, i * 4, none⟩) (.inl rfl) _) (p := ⟨g, i * 4 + 1, none⟩) (.inl rfl) _) (p := ⟨g, i * 4 + 2, none⟩) (.inl rfl) _) (p := ⟨g, i * 4 + 3, none⟩) (.inl rfl) _⟩)
        have HFz : Hid (∀ w3, Below wr.heap.size wr w3 → ∀ k, w3.frozen? ⟨g, k, none⟩ = false) := Lib.hid (fun w3 hb3 k => by
          obtain ⟨cs, hc⟩ := own_kind HOw.out (k := g) rfl
          exact (hc.below hb3 hc.lt).frozen k)
        have HOw3 : Hid (∀ w3, Below wr.heap.size wr w3 → w3.ownsRow 0 88 4 (.slice (some ⟨g, 0, none⟩) l.length c) l.length (flat encP cur) ∧ w.grownBy w3 (some g)) := Lib.hid (fun w3 hb3 => ⟨own_only HOw.out (Only.of_below (F := fun _ => False) hb3) fun _ _ => id, HG.out.andThen (only_of_below hb3 none) fun j hj => by cases hj⟩)
        have hgr' : g < wr.heap.size := hgr
        have HKeep : Hid (l[j].name ≠ nm → KeptP nm l (cur.set i l[j]) (i + 1) (j + 1)) := Lib.hid (fun he => HK.out.keep hlt (by simp [isOf, he]))
        have HSkip : Hid (l[j].name = nm → KeptP nm l cur i (j + 1)) := Lib.hid (fun he => HK.out.skip hlt (by simp [isOf, he]))
        clear hcell hv' hrow hbv hcj hclen hBr hgr
        generalize l[j].name = x at *
        generalize l[j].at' = xa at *
        generalize l[j].cut = xc at *
        generalize hcset : cur.set i l[j] = curs at *
        clear hcset
        generalize cur[i] = old at *
        have HRef : Hid (Below wr.heap.size wr wr) := Lib.hid (Below.refl _ _)
        by_cases he : x = nm
        · have HE := Lib.hid (HSkip.out he)
          have HD : Hid (decide (x = nm) = true) := decide_eq_true he
          rw [HD.out] at HCall
          clear he HKeep HSkip
          go_wp2_with (go_at_call 64; refine (HCall.out _ ((Below.refl _ _).alloc (Nat.le_refl _) _)).mono ?_; rintro e w3 ⟨rfl, hb3⟩; have HB3 : Hid (Below wr.heap.size wr w3) := Lib.hid (((Below.refl _ _).alloc (Nat.le_refl _) _).trans (hb3.mono (by simp))); clear hb3)
          obtain ⟨o1, o2⟩ := HOw3.out w3 HB3.out
          go_roundw
          case rel => exact ⟨i, j + 1, cur, rfl, by go_num, by omega, HE, Lib.hid o1, Lib.hid o2⟩
          case measure => first | omega | (simp [intOf]; omega)
        · have HE := Lib.hid (HKeep.out he)
          have HD : Hid (decide (x = nm) = false) := decide_eq_false he
          rw [HD.out] at HCall
          clear he HKeep HSkip
          obtain ⟨ob, hob⟩ : ∃ ob, ob = old.bv := ⟨_, rfl⟩
          go_wp2_with (go_at_call 64; refine (HCall.out _ ((Below.refl _ _).alloc (Nat.le_refl _) _)).mono ?_; rintro e w3 ⟨rfl, hb3⟩; have hbb : Below wr.heap.size wr w3 := ((Below.refl _ _).alloc (Nat.le_refl _) _).trans (hb3.mono (by simp)); have z0 := (hbb.cell (p := ⟨g, i * 4, none⟩) hgr').trans y0; have z1 := (hbb.cell (p := ⟨g, i * 4 + 1, none⟩) hgr').trans y1; have z2 := (hbb.cell (p := ⟨g, i * 4 + 2, none⟩) hgr').trans y2; have z3 := (hbb.cell (p := ⟨g, i * 4 + 3, none⟩) hgr').trans y3; have fz := HFz.out w3 hbb; have hbk := (Blk.new wr 88 #[.string x, .int .i64 (xa : Int), .slice Aq nq' cq, .bool xc]).below hb3 (by simp); have t0 := hbk.cell 0; have t1 := hbk.cell 1; have t2 := hbk.cell 2; have t3 := hbk.cell 3; simp only [List.getElem?_toArray, List.getElem?_cons_succ, List.getElem?_cons_zero] at t0 t1 t2 t3; have HB3 : Hid (Below wr.heap.size wr w3) := Lib.hid hbb; clear hb3 hbb hbk)
          obtain ⟨o1, o2⟩ := HSet.out w3 HB3.out
          go_roundw
          case rel => exact ⟨i + 1, j + 1, curs, by go_num, by go_num, by omega, HE, Lib.hid o1, Lib.hid o2⟩
          case measure => first | omega | (simp [intOf]; omega)
      · obtain rfl : j = l.length := by omega
        obtain ⟨k1, k2, k3⟩ := kept_end HK.out
        obtain ⟨w2, hcl, c2, c3⟩ := clear_row HOw.out HK.out.len k3
        have HE : Hid (StruckAt (.slice (some ⟨g, 0, none⟩) l.length c) (l.filter fun q => !isOf nm q) w (.returned (.slice (some ⟨g, 0, none⟩) i c)) w2) := Lib.hid (by
          rw [k1] at c2
          refine ⟨_, rfl, ?_, HG.out.andThen c3 fun j hj => .inr hj, rfl⟩
          rw [k2]
          exact c2)
        have h1 : (i : Int) ≤ (l.length : Int) := by omega
        have h2 : i ≤ l.length := by omega
        have h3 : (i : Int) ≤ (c : Int) := by omega
        have h4 : i < c := by omega
        have h5 : ¬ c = i := by omega
        clear k1 k2 c2 c3 hlt hij
        go_wp2
        go_ret
        exact HE.out
end Go.Proofs.Ytoihkanneiknkaa

namespace Go.Proofs.Ytoihkanneiknkaa
open Go.RowKit Go.Maps
attribute [local go_sem ↓] Go.wp_at_zero Go.wp_at_succ

section
variable {w w' : World} {F G : Nat → Prop} {p : Nat} {L : LMem}
/-- The row of what waits has become another. -/
theorem DiskM.rowTo {l' : List PR} {w1 : World} {v : Value} (h : DiskM w F p L) (hg : w.grownBy w1 L.wv.ownBlock) (ho : w1.ownsRow 0 88 4 v l'.length (flat encP l')) (hat : v.ownBlock = L.wv.ownBlock ∨ v.ownBlock = none)
    (hp : ∀ q ∈ l', q ∈ L.pr) :
    DiskM (w1.setCell ⟨p, 2, none⟩ v) F p { L with wv := v, pr := l' } ∧ Only F w (w1.setCell ⟨p, 2, none⟩ v) ∧ Keeps8 w (w1.setCell ⟨p, 2, none⟩ v) := by
  have ho1 : Only (fun k => L.wv.ownBlock = some k) w w1 := (Only.refl _ w).grown hg fun k hk => .inl hk
  have ho2 : Only (fun k => L.wv.ownBlock = some k ∨ k = p) w (w1.setCell ⟨p, 2, none⟩ v) := (ho1.mono fun k _ hk => .inl hk).setCell (p := ⟨p, 2, none⟩) (.inl (.inr rfl)) v
  have hne : ∀ {T : TypeId} {k : Nat}, Kind w T k → T ≠ 88 → T ≠ 66 → ¬ (L.wv.ownBlock = some k ∨ k = p) := fun hk h1 h2 e => e.elim (fun e => hk.ne (h.row.kind e) h1 rfl) fun e => hk.ne h.kind h2 e
  have hpp : ¬ L.wv.ownBlock = some p := fun e => (h.row.kind e).ne h.kind (by decide) rfl
  have hvp : v.ownBlock ≠ some p := fun e => by
    rcases hat with h1 | h1
    · rw [h1] at e; exact hpp e
    · rw [h1] at e; cases e
  refine ⟨{
    blk := by
      have := (h.blk.only ho1 hpp).set_ 2 v
      simpa [LMem.blkOf] using this
    fp := h.fp
    map := h.map.off ho2 fun b hb e => by
      rcases e with e | e
      · exact h.map.ne hb (h.row.kind e) rfl
      · exact h.map.ne hb h.kind e
    file := fun f hf => (h.file f hf).off ho2 (hne (h.file f hf).kind (by decide) (by decide)) fun k hk => hne ((h.file f hf).own hk).1 (by decide) (by decide)
    row := ⟨own_only ho ((Only.refl (fun k => k = p) w1).setCell (p := ⟨p, 2, none⟩) (.inl rfl) v) fun k hk e => hvp (e ▸ hk), fun k hk => by
      rcases hat with h1 | h1
      · rw [h1] at hk
        exact h.row.fp k hk
      · rw [h1] at hk; cases hk⟩
    piece := fun q hq => (h.piece q (hp q hq)).off ho2 fun k hk => hne ((h.piece q (hp q hq)).own hk).1 (by decide) (by decide)
    srt := h.srt
    apart := h.apart
    clear := fun q hq k hk f hf => h.clear q (hp q hq) k hk f hf }, ho2.mono fun k _ hk => hk.elim (fun e => h.row.fp k e) fun e => e ▸ h.fp, keeps8_of ho2 fun k hk e => hne e (by decide) (by decide) hk⟩
theorem DiskM.sliced (h : DiskM w F p L) : Sliced L.pr := fun q hq => by
  obtain ⟨A, c, e⟩ := (h.piece q hq).value
  exact ⟨A, _, c, e⟩
end
theorem reads_new4' (w : World) (t : TypeId) (xs : List Value) (hn : xs.length = 4) (g : Nat) (hg : w.heap.size = g) : Reads (w.alloc (.cells xs.toArray t)) (g + 1) 4 (some ⟨g, 0, none⟩) 1 xs := by
  subst hg
  exact reads_new4 w t xs hn
/-- What is taken. -/
def TakenAt (F : Nat → Prop) (p : Nat) (L : LMem) (nm : ByteArray) (w : World) (e : Ending) (w' : World) : Prop :=
  ∃ v wv', e = .returned v ∧ w'.ownsRow w.heap.size 88 4 v (L.pr.filter (isOf nm)).length (flat encP (L.pr.filter (isOf nm))) ∧ DiskM w' F p { L with wv := wv', pr := L.pr.filter fun q => !isOf nm q } ∧ Only F w w' ∧ Keeps8 w w'
theorem filter_step (nm : ByteArray) (l : List PR) (k : Nat) (h : k < l.length) : (l.take (k + 1)).filter (isOf nm) = (l.take k).filter (isOf nm) ++ if isOf nm l[k] then [l[k]] else [] := by
  rw [List.take_succ_eq_append_getElem h, List.filter_append]
  congr 1
  by_cases he : isOf nm l[k] = true <;> simp [he]

set_option maxRecDepth 100000 in
set_option maxHeartbeats 4000000 in
theorem ltaken_any (nm : ByteArray) (F : Nat → Prop) (p : Nat) (L : LMem) (w : World) (h : DiskM w F p L) (hpl : L.pr.length ≤ 549755813888) :
    Calls Try.prog 40 #[.pointer (some ⟨p, 0, none⟩), .string nm] w fun e w' => TakenAt F p L nm w e w' := by
  obtain ⟨i0, hi0, hz0, hz1, hz2⟩ := info_parts lpinfo
  have hmf : ∀ (fn : Fn) (first cap : Array Value) (w : World), (Instr.makeFunc fn first cap).run Try.prog w = .ok (.func fn first cap) w := fun _ _ _ _ => rfl
  obtain ⟨Aw, cw, hwv, hlc, hcm, -⟩ := h.row.value
  have d2 := h.cells.2.2.1
  rw [hwv] at d2
  have hp : p < w.heap.size := h.blk.lt
  have HD := Lib.hid h
  have HSl := Lib.hid h.sliced
  have HWv := Lib.hid hwv
  have hrow := h.row
  rw [hwv] at hrow
  have HRow := Lib.hid hrow
  unfold maxLen at hcm
  clear h hwv hrow
  go_enter Try.func40, Try.ntmps40
  go_wp2
  go_loopw [5, 13] (fun s5 s13 wr => ∃ (k : Nat) (v5 : Value), k ≤ L.pr.length ∧ s13 = .int .i64 (k : Int) ∧ v5 = s5 ∧ Hid (wr.ownsRow w.heap.size 88 4 v5 ((L.pr.take k).filter (isOf nm)).length (flat encP ((L.pr.take k).filter (isOf nm)))) ∧ Hid (Below w.heap.size w wr) ∧ Hid (Blk wr w.heap.size 9 #[.string nm]))
    (fun _ s13 _ => L.pr.length - (intOf s13).toNat)
  case atStart => exact ⟨0, _, Nat.zero_le _, rfl, rfl, Lib.hid (own_nil _ _ _ _), Lib.hid ((Below.refl _ _).alloc (Nat.le_refl _) _), Lib.hid (Blk.new _ _ _)⟩
  case round =>
    obtain ⟨k, v5, hk, rfl, rfl, HOw, HBel, HBox⟩ := hrel
    by_cases hlt : k < L.pr.length
    · have hi : (k : Int) < (L.pr.length : Int) := by omega
      have hrow := HRow.out.only (Only.of_below (F := fun _ => False) HBel.out) fun _ _ => id
      obtain ⟨g, cap, hv2, -, hgw, -, -, hcell, -⟩ := lpr_cells hrow (by omega)
      obtain ⟨rfl, rfl⟩ : Aw = some ⟨g, 0, none⟩ ∧ cw = cap := by simpa using hv2
      obtain ⟨x0, x1, x2, x3⟩ := hcell k hlt
      obtain ⟨Aq, nq', cq, hbv⟩ := HSl.out _ (List.getElem_mem hlt)
      rw [hbv] at x2
      have b0 := HBox.out.cell 0
      simp only [List.getElem?_toArray, List.getElem?_cons_zero] at b0
      have hbs := HBox.out.lt
      have hfil := filter_step nm L.pr k hlt
      have hfl : ((L.pr.take k).filter (isOf nm)).length ≤ k := Nat.le_trans (List.length_filter_le _ _) (by rw [List.length_take]; omega)
      have HFil := Lib.hid hfil
      have hof : isOf nm L.pr[k] = decide (L.pr[k].name = nm) := rfl
      have HOf := Lib.hid hof
      have hencq : encP L.pr[k] = [.string L.pr[k].name, .int .i64 (L.pr[k].at' : Int), .slice Aq nq' cq, .bool L.pr[k].cut] := by unfold encP; rw [hbv]
      have HEnc := Lib.hid hencq
      have HNext : Hid (∀ (v' : Value) (w1 : World), w1.ownsRow w.heap.size 88 4 v' (((L.pr.take k).filter (isOf nm)).length + 1) (flat encP ((L.pr.take k).filter (isOf nm)) ++ [.string L.pr[k].name, .int .i64 (L.pr[k].at' : Int), .slice Aq nq' cq, .bool L.pr[k].cut]) → L.pr[k].name = nm → w1.ownsRow w.heap.size 88 4 v' ((L.pr.take (k + 1)).filter (isOf nm)).length (flat encP ((L.pr.take (k + 1)).filter (isOf nm)))) := Lib.hid (fun v' w1 h1 he => by
        rw [hfil, hof, decide_eq_true he, if_pos rfl, List.length_append, flat_append, flat_one, hencq]
        exact h1)
      have HSkip : Hid (L.pr[k].name ≠ nm → (L.pr.take (k + 1)).filter (isOf nm) = (L.pr.take k).filter (isOf nm)) := Lib.hid (fun he => by
        rw [hfil, hof, decide_eq_false he]
        simp)
      have hrowne : v5.ownBlock ≠ some w.heap.size := fun e => (own_kind HOw.out e).ne ⟨_, HBox.out⟩ (by decide) rfl
      have HNe := Lib.hid hrowne
      clear hcell hv2 hrow hbv hfil hof hencq hrowne HFil HOf HEnc
      generalize hxn : L.pr[k].name = x at *
      generalize L.pr[k].at' = xa at *
      generalize L.pr[k].cut = xc at *
      clear hxn
      by_cases he : x = nm
      · have hb := str_yes he
        have HE := Lib.hid (fun v' w1 h1 => HNext.out v' w1 h1 he)
        clear he HSkip HNext
        go_wp2_with (at_builtin; refine wpList_append_any _ rfl (.tmp 21) (.tmp 23) 64 rfl w.heap.size 88 i0 (.agg #[.string ByteArray.empty, .int .i64 0, .slice none 0 0, .bool false]) 4 56 Try.underlying64 hi0 hz0 hz1 hz2 rfl (by decide) _ ((L.pr.take k).filter (isOf nm)).length _ rfl ((HOw.out.alloc _).alloc _) (wr.heap.size + 1 + 1) (some ⟨wr.heap.size + 1, 0, none⟩) 1 1 [.string x, .int .i64 (xa : Int), .slice Aq nq' cq, .bool xc] rfl (reads_new4' _ 88 [.string x, .int .i64 (xa : Int), .slice Aq nq' cq, .bool xc] rfl (wr.heap.size + 1) (by simp)) (one_four _ _ _ _ rfl) (by unfold maxLen; omega) (by omega) (alloc_ge (alloc_ge HBel.out.size _) _) ?_; intro v' w1 ho1 hg1 hat1)
        have HG : Hid (wr.grownBy w1 v5.ownBlock) := Lib.hid (((World.grownBy_alloc wr _ _).andThen (World.grownBy_alloc _ _ _) fun j hj => .inr hj).andThen hg1 fun j hj => .inr hj)
        have HO1 := Lib.hid (HE.out v' w1 ho1)
        clear ho1 hg1 hat1
        go_wp2
        go_roundw
        case rel => exact ⟨k + 1, _, by omega, by go_num, rfl, HO1, Lib.hid (HBel.out.grown HG.out HBel.out.size (own_ge HOw.out)), Lib.hid (HBox.out.grown HG.out fun e => HNe.out e.symm)⟩
        case measure => first | omega | (simp [intOf]; omega)
      · have hb := str_no he
        have HE := Lib.hid (HSkip.out he)
        clear he HSkip HNext
        go_wp2
        go_roundw
        case rel => exact ⟨k + 1, _, by omega, by go_num, rfl, Lib.hid (by rw [HE.out]; exact HOw.out.alloc _), Lib.hid (HBel.out.alloc HBel.out.size _), Lib.hid (HBox.out.alloc _)⟩
        case measure => first | omega | (simp [intOf]; omega)
    · obtain rfl : k = L.pr.length := by omega
      have how := HOw.out
      rw [List.take_length] at how
      have HOw2 := Lib.hid how
      have hdel := deleteF_any nm L.pr HSl.out Aw cw w.heap.size wr (by
        have h1 := own_only HRow.out.own (Only.of_below (F := fun _ => False) HBel.out) fun _ _ => id
        exact h1) hpl (by
        have b0 := HBox.out.cell 0
        exact b0) (fun e => by
        have := (HRow.out.own.lt _ e).2
        omega)
      have HDel := Lib.hid hdel
      have HEnd : Hid (∀ (w3 : World) A3 n3 c3, w3.ownsRow 0 88 4 (.slice A3 n3 c3) (L.pr.filter fun q => !isOf nm q).length (flat encP (L.pr.filter fun q => !isOf nm q)) → wr.grownBy w3 (Value.slice Aw L.pr.length cw).ownBlock → (Value.slice A3 n3 c3).ownBlock = (Value.slice Aw L.pr.length cw).ownBlock → TakenAt F p L nm w (.returned v5) (w3.setCell ⟨p, 2, none⟩ (.slice A3 n3 c3))) := Lib.hid (fun w3 A3 n3 c3 ho3 hg3 hat3 => by
        have hgw : w.grownBy w3 L.wv.ownBlock := by
          rw [HWv.out]
          exact (only_of_below HBel.out (Value.slice Aw L.pr.length cw).ownBlock).andThen hg3 fun j hj => .inr hj
        have h1 := HD.out.rowTo hgw ho3 (.inl (by rw [HWv.out]; exact hat3)) fun q hq => (List.mem_filter.1 hq).1
        refine ⟨v5, _, rfl, ?_, h1.1, h1.2.1, h1.2.2⟩
        have hv5 : ∀ k, v5.ownBlock = some k → ¬ ((Value.slice Aw L.pr.length cw).ownBlock = some k) := fun k hk e => by
          have h2 := (HOw2.out.lt k hk).1
          have h3 := (HRow.out.own.lt k e).2
          omega
        have ho4 := own_only HOw2.out ((Only.refl (fun k => (Value.slice Aw L.pr.length cw).ownBlock = some k) wr).grown hg3 fun k hk => .inl hk) hv5
        exact own_only ho4 ((Only.refl (fun k => k = p) w3).setCell (p := ⟨p, 2, none⟩) (.inl rfl) _) fun k hk e => by
          have := (ho4.lt k hk).1
          omega)
      have HCl : Hid (∀ (w3 : World), wr.grownBy w3 (Value.slice Aw L.pr.length cw).ownBlock → w3.cell? ⟨p, 2, none⟩ = some (.slice Aw L.pr.length cw) ∧ w3.frozen? ⟨p, 2, none⟩ = false) := Lib.hid (fun w3 hg3 => by
        have hb := (HD.out.blk.below HBel.out hp).grown hg3 fun e => (HRow.out.kind e.symm).ne HD.out.kind (by decide) rfl
        exact ⟨by rw [hb.cell]; show some L.wv = _; rw [HWv.out], hb.frozen 2⟩)
      have d2r := (HBel.out.cell (p := ⟨p, 2, none⟩) hp).trans d2
      clear how hdel hlt hk
      generalize L.pr.length = n6 at *
      go_wp2_with (go_at_call 63; refine HDel.out.mono ?_; rintro e w3 ⟨v3, rfl, ho3, hg3, hat3⟩; obtain ⟨A3, c3, rfl⟩ := own_slice ho3; obtain ⟨z1, z2⟩ := HCl.out w3 hg3; have HE := Lib.hid (HEnd.out w3 A3 _ c3 ho3 hg3 hat3); clear ho3 hg3 hat3)
      go_ret
      exact HE.out
end Go.Proofs.Ytoihkanneiknkaa

namespace Go.Proofs.Ytoihkanneiknkaa

/-! ### One file of a name -/
theorem pos_putAt (nm : ByteArray) (l : List ByteArray) (k : Nat) (hk : k ≤ l.length) (hn : nm ∉ l) : pos nm (putAt l k nm) = some k := by
  refine pos_some.2 ⟨by rw [length_putAt]; omega, ?_, fun j hj => ?_⟩
  · have : (putAt l k nm)[k]? = some nm := by
      unfold putAt
      rw [List.append_assoc, List.getElem?_append_right (by simp; omega)]
      simp [Nat.min_eq_left hk]
    exact (List.getElem?_eq_some_iff.1 this).2
  · have h1 : (putAt l k nm)[j]? = l[j]? := by
      unfold putAt
      rw [List.append_assoc, List.getElem?_append_left (by simp; omega), List.getElem?_take_of_lt hj]
    intro e
    have h2 : (putAt l k nm)[j]? = some nm := List.getElem?_eq_some_iff.2 ⟨by rw [length_putAt]; omega, e⟩
    rw [h1] at h2
    exact hn (List.mem_of_getElem? h2)
theorem made_names_new (s : RD) (nm : ByteArray) (h : s.find nm = none) : (s.made nm).names = putAt s.names (lessN nm s.names) nm := by
  unfold RD.made
  rw [h]
  simp only [RD.names, names_putAt]
theorem made_find (s : RD) (nm : ByteArray) : (s.made nm).find nm = some (s.at_ nm) := by
  rcases h : s.find nm with _ | k
  · have e : s.at_ nm = lessN nm s.names := by unfold RD.at_; rw [h]
    rw [e]
    show pos nm (s.made nm).names = _
    rw [made_names_new s nm h]
    exact pos_putAt nm _ _ (lessN_le _ _) (pos_none.1 h)
  · have e : s.at_ nm = k := by unfold RD.at_; rw [h]
    have e2 : s.made nm = s := by unfold RD.made; rw [h]
    rw [e, e2, h]
theorem upN_setF (s : RD) (nm : ByteArray) (g : RF → RF) (hs : s.names.Pairwise bLt) {k : Nat} (hk : s.find nm = some k) : s.upN nm g = s.setF k g := by
  obtain ⟨h1, h2, h3⟩ := pos_some.1 hk
  have hl : k < s.files.length := by simpa [RD.names] using h1
  unfold RD.upN RD.setF
  rw [List.getElem?_eq_getElem hl]
  simp only
  congr 1
  refine List.ext_getElem (by simp) fun j j1 j2 => ?_
  have hj : j < s.files.length := by simpa using j1
  rw [List.getElem_map, List.getElem_set]
  have hname : ∀ i (hi : i < s.files.length), s.files[i].name = s.names[i]'(by simpa [RD.names] using hi) := fun i hi => by simp [RD.names]
  by_cases e : k = j
  · subst e
    rw [if_pos rfl, if_pos (by rw [hname k hl]; exact h2)]
  · rw [if_neg e, if_neg]
    intro e2
    rw [hname j hj] at e2
    rcases Nat.lt_or_gt_of_ne e with h | h
    · have := List.pairwise_iff_getElem.1 hs k j h1 (by simpa [RD.names] using hj) h
      rw [h2, e2] at this
      exact bLt_irrefl _ this
    · exact h3 j h e2
theorem made_sorted (s : RD) (nm : ByteArray) (hs : s.names.Pairwise bLt) : (s.made nm).names.Pairwise bLt := by
  rcases h : s.find nm with _ | k
  · rw [made_names_new s nm h]
    exact putAt_sorted nm _ hs (pos_none.1 h)
  · have e2 : s.made nm = s := by unfold RD.made; rw [h]
    rw [e2]; exact hs
theorem upN_names (s : RD) (nm : ByteArray) (g : RF → RF) (hg : ∀ f, (g f).name = f.name) : (s.upN nm g).names = s.names := by
  simp only [RD.names, RD.upN, List.map_map]
  refine List.map_congr_left fun x _ => ?_
  show (if x.name = nm then g x else x).name = x.name
  split
  · exact hg x
  · rfl
theorem upN_upN (s : RD) (nm : ByteArray) (g g' : RF → RF) (hg : ∀ f, (g f).name = f.name) : (s.upN nm g).upN nm g' = s.upN nm fun f => g' (g f) := by
  simp only [RD.upN, List.map_map]
  congr 1
  refine List.map_congr_left fun x _ => ?_
  show (if (if x.name = nm then g x else x).name = nm then g' (if x.name = nm then g x else x) else (if x.name = nm then g x else x)) = if x.name = nm then g' (g x) else x
  by_cases h : x.name = nm
  · simp only [if_pos h]
    rw [if_pos (by rw [hg]; exact h)]
  · simp only [if_neg h]
theorem made_upN (s : RD) (nm : ByteArray) (g : RF → RF) (hg : ∀ f, (g f).name = f.name) : ((s.made nm).upN nm g).made nm = (s.made nm).upN nm g := by
  have h1 : ((s.made nm).upN nm g).find nm = some (s.at_ nm) := by
    show pos nm ((s.made nm).upN nm g).names = _
    rw [upN_names _ _ _ hg]
    exact made_find s nm
  unfold RD.made at h1 ⊢
  rw [h1]

/-! ### A write is its pieces -/
def onAll (l : List RP) (b : List UInt8) : List UInt8 := l.foldl (fun b q => q.on b) b
theorem wait_fold (l : List RP) (nm : ByteArray) (hl : ∀ q ∈ l, q.name = nm) (q0 : RP) (h0 : q0.name = nm) (s : RD) :
    ((q0 :: l).foldl waitOne s) = (s.made nm).upN nm fun f => { f with now := onAll (q0 :: l) f.now } := by
  induction l generalizing s q0 with
  | nil =>
    show waitOne s q0 = _
    unfold waitOne
    rw [h0]
    rfl
  | cons q l ih =>
    have hq := hl q List.mem_cons_self
    rw [List.foldl_cons, ih (fun x hx => hl x (List.mem_cons_of_mem _ hx)) q hq (waitOne s q0)]
    have e : waitOne s q0 = (s.made nm).upN nm fun f => { f with now := q0.on f.now } := by unfold waitOne; rw [h0]
    have h2 := made_upN s nm (fun f => { f with now := q0.on f.now }) fun _ => rfl
    have h3 := upN_upN (s.made nm) nm (fun f => { f with now := q0.on f.now }) (fun f => { f with now := onAll (q :: l) f.now }) fun _ => rfl
    rw [e, h2, h3]
    rfl
theorem layB_eq (l : List UInt8) (a : Nat) (b : List UInt8) (h : a ≤ l.length) : layB l a b = l.take a ++ b ++ l.drop (a + b.length) := by
  unfold layB
  rw [List.take_append_of_le_length h]
theorem lay_lay (l : List UInt8) (a : Nat) (b1 b2 : List UInt8) (h : a ≤ l.length) : layB (layB l a b1) (a + b1.length) b2 = layB l a (b1 ++ b2) := by
  have hl : (layB l a b1).length = max l.length (a + b1.length) := layB_length l a b1
  rw [layB_eq (layB l a b1) (a + b1.length) b2 (by omega), layB_eq l a b1 h, layB_eq l a (b1 ++ b2) h]
  have e1 : (l.take a ++ b1).length = a + b1.length := by rw [List.length_append, List.length_take, Nat.min_eq_left h]
  rw [List.take_append_of_le_length (by omega), List.take_of_length_le (by omega)]
  rw [List.drop_append, List.drop_of_length_le (l := l.take a ++ b1) (by omega), e1, List.nil_append, List.drop_drop, List.length_append]
  rw [List.append_assoc (l.take a) b1 b2]
  congr 2
  omega
theorem pieces_go (nm : ByteArray) (a : Nat) (b l0 : List UInt8) (h : a ≤ l0.length) : ∀ (fuel o : Nat) (l : List RP), b.length - o ≤ fuel → o ≤ b.length → piecesTo nm a b o = (o, l) → (∀ q ∈ l, q.name = nm ∧ q.cut = false) → onAll l l0 = layB l0 a (b.take o) →
    ∃ l', pieces nm a b = l' ∧ (∀ q ∈ l', q.name = nm ∧ q.cut = false) ∧ onAll l' l0 = layB l0 a b := by
  intro fuel
  induction fuel with
  | zero =>
    intro o l hf ho hp hq hl
    obtain rfl : o = b.length := by omega
    rw [List.take_length] at hl
    exact ⟨l, by unfold pieces; rw [hp], hq, hl⟩
  | succ fuel ih =>
    intro o l hf ho hp hq hl
    rcases Nat.eq_or_lt_of_le ho with he | hlt
    · subst he
      rw [List.take_length] at hl
      exact ⟨l, by unfold pieces; rw [hp], hq, hl⟩
    · obtain ⟨n, hn⟩ : ∃ n, n = min (64 - (a + o) % 64) (b.length - o) := ⟨_, rfl⟩
      have hst := pieces_step nm a b o n l hp hlt hn
      refine ih (o + n) _ (by omega) (by omega) hst (fun q hq' => ?_) ?_
      · rcases List.mem_append.1 hq' with h1 | h1
        · exact hq q h1
        · simp at h1
          rw [h1]
          exact ⟨rfl, rfl⟩
      · unfold onAll at hl ⊢
        rw [List.foldl_append, hl]
        show layB (layB l0 a (b.take o)) (a + o) ((b.drop o).take n) = _
        have e : a + o = a + (b.take o).length := by rw [List.length_take, Nat.min_eq_left ho]
        rw [e, lay_lay l0 a _ _ h, List.take_add]
theorem pieces_on (nm : ByteArray) (a : Nat) (b l0 : List UInt8) (h : a ≤ l0.length) : (∀ q ∈ pieces nm a b, q.name = nm ∧ q.cut = false) ∧ onAll (pieces nm a b) l0 = layB l0 a b := by
  obtain ⟨l', rfl, h1, h2⟩ := pieces_go nm a b l0 h b.length 0 [] (by omega) (Nat.zero_le _) rfl (fun q hq => by cases hq) (by
    show l0 = _
    rw [layB_eq l0 a _ h]
    simp)
  exact ⟨h1, h2⟩
theorem pieces_ne (nm : ByteArray) (a : Nat) (b : List UInt8) (hb : b ≠ []) : pieces nm a b ≠ [] := fun e => by
  have h := (pieces_on nm a b (List.replicate a 0) (by simp)).2
  rw [e] at h
  have := congrArg List.length h
  rw [layB_length] at this
  have hl : (onAll [] (List.replicate a (0 : UInt8))).length = a := by simp [onAll]
  rw [hl, List.length_replicate] at this
  have h3 : 0 < b.length := List.length_pos_iff.2 hb
  omega
theorem had_made (s : RD) (nm : ByteArray) : (s.made nm).had nm = s.had nm := by
  rcases h : s.find nm with _ | k
  · unfold RD.had
    rw [made_find, h]
    have e : s.at_ nm = lessN nm s.names := by unfold RD.at_; rw [h]
    simp only [e]
    unfold RD.made
    rw [h]
    have : (putAt s.files (lessN nm s.names) (⟨nm, [], [], false⟩ : RF))[lessN nm s.names]? = some ⟨nm, [], [], false⟩ := by
      have hle : lessN nm s.names ≤ s.files.length := by have := lessN_le nm s.names; simpa [RD.names] using this
      unfold putAt
      rw [List.append_assoc, List.getElem?_append_right (by simp; omega)]
      simp [Nat.min_eq_left hle]
    simp [this]
  · have e2 : s.made nm = s := by unfold RD.made; rw [h]
    rw [e2]
/-- A file of a name has as many bytes as the name. -/
theorem had_mem {s : RD} (hs : s.names.Pairwise bLt) {f : RF} (hf : f ∈ s.files) : s.had f.name = f.now.length := by
  obtain ⟨k, hk, rfl⟩ := List.getElem_of_mem hf
  have hn : k < s.names.length := by simpa [RD.names] using hk
  have e : s.names[k] = s.files[k].name := by simp [RD.names]
  have hfd : s.find s.files[k].name = some k := pos_some.2 ⟨hn, e, fun j hj => fun he => by
    have h1 := List.pairwise_iff_getElem.1 hs j k (by omega) hn hj
    rw [he, e] at h1
    exact bLt_irrefl _ h1⟩
  unfold RD.had
  rw [hfd]
  simp [List.getElem?_eq_getElem hk]
theorem upN_congr (s : RD) (nm : ByteArray) (g g' : RF → RF) (h : ∀ f ∈ s.files, f.name = nm → g f = g' f) : s.upN nm g = s.upN nm g' := by
  simp only [RD.upN]
  congr 1
  refine List.map_congr_left fun x hx => ?_
  split
  · rename_i e
    exact h x hx e
  · rfl
theorem write_fold (s : RD) (nm : ByteArray) (a : Nat) (b : List UInt8) (hb : b ≠ []) (hs : s.names.Pairwise bLt) (ha : a ≤ s.had nm) :
    (pieces nm a b).foldl waitOne s = (s.made nm).setF (s.at_ nm) fun f => { f with now := layB f.now a b } := by
  rcases hp : pieces nm a b with _ | ⟨q0, l⟩
  · exact absurd hp (pieces_ne nm a b hb)
  · have h0 := (pieces_on nm a b (List.replicate a 0) (by simp)).1
    rw [hp] at h0
    rw [wait_fold l nm (fun q hq => (h0 q (List.mem_cons_of_mem _ hq)).1) q0 (h0 q0 List.mem_cons_self).1 s, ← upN_setF _ nm _ (made_sorted s nm hs) (made_find s nm)]
    refine upN_congr _ _ _ _ fun f hf hfn => ?_
    have h1 := had_mem (made_sorted s nm hs) hf
    rw [hfn, had_made] at h1
    have h2 := (pieces_on nm a b f.now (by omega)).2
    rw [hp] at h2
    rw [h2]
end Go.Proofs.Ytoihkanneiknkaa
