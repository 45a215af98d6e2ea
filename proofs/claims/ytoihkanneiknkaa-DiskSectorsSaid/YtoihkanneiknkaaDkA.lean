/- The document's disk in memory: what its blocks hold, and that it stays where only other blocks turn. Contracts of octavoref04: Named, find, sum, change. Contracts of octavoref04: Named, change, fits. Contract of octavoref04.fits: which error a file that is to have so many bytes meets. Conditions: those that each theorem names. -/
import Derived.Test.YtoihkanneiknkaaSep
import Derived.Test.YtoihkanneiknkaaDkModel
import Derived.Test.YtoihkanneiknkaaCopy
import Derived.Lib.Case
import Derived.Deep.RegionHeld3
import Derived.Deep.LoopGhost
namespace Go.Proofs.Ytoihkanneiknkaa
open Go.RowKit

/-- Bytes that are owned by F. -/
def BOwn (w : World) (F : Nat → Prop) (v : Value) (l : List UInt8) : Prop := w.ownsRow 0 5 1 v l.length (bv l) ∧ ∀ k, v.ownBlock = some k → F k
section
variable {w w' : World} {F G : Nat → Prop} {v : Value} {l : List UInt8}
theorem BOwn.only (h : BOwn w F v l) (ho : Only G w w') (hn : ∀ k, F k → ¬ G k) : BOwn w' F v l := ⟨own_only h.1 ho fun k hk => hn k (h.2 k hk), h.2⟩
theorem BOwn.off (h : BOwn w F v l) (ho : Only G w w') (hn : ∀ k, v.ownBlock = some k → ¬ G k) : BOwn w' F v l := ⟨own_only h.1 ho hn, h.2⟩
theorem BOwn.mono (h : BOwn w F v l) (hF : ∀ k, F k → G k) : BOwn w G v l := ⟨h.1, fun k hk => hF k (h.2 k hk)⟩
theorem BOwn.value (h : BOwn w F v l) : ∃ A c, v = .slice A l.length c ∧ l.length ≤ c ∧ c ≤ maxLen ∧ Reads w w.heap.size 1 A l.length (bv l) := by
  obtain ⟨A, c, rfl, h1, h2, h3, _⟩ := own_form h.1
  exact ⟨A, c, rfl, h1, h2, h3⟩
theorem BOwn.cell (h : BOwn w F v l) : v.oneCell' = true := by
  obtain ⟨A, c, rfl, _⟩ := h.value
  rfl
theorem BOwn.len (h : BOwn w F v l) : l.length ≤ maxLen := by
  obtain ⟨A, c, _, h1, h2, _⟩ := h.value
  omega
/-- A block of bytes is no block of another kind. -/
theorem BOwn.ne {g : Nat} {t : TypeId} {cs : Array Value} (h : BOwn w F v l) (hb : Blk w g t cs) (ht : 5 ≠ t) : ∀ k, v.ownBlock = some k → k ≠ g := fun _ hk e => own_blk_ne h.1 hb ht (e ▸ hk)
theorem bown_nil (w : World) (F : Nat → Prop) : BOwn w F (.slice none 0 0) [] := ⟨own_nil _ _ _ _, fun k h => by simp [Value.ownBlock] at h⟩
theorem bown_of_own {base : Nat} (h : w.ownsRow base 5 1 v l.length (bv l)) (hF : ∀ k, base ≤ k → k < w.heap.size → F k) : BOwn w F v l := ⟨own_base h (Nat.zero_le _), fun k hk => by
  have := h.lt k hk
  exact hF k this.1 this.2⟩
end

structure FR where
  name : ByteArray
  nv : Value
  now : List UInt8
  sv : Value
  safe : List UInt8
  sure : Bool
structure PR where
  name : ByteArray
  at' : Nat
  bv : Value
  b : List UInt8
  cut : Bool
def encF (f : FR) : List Value := [.string f.name, f.nv, f.sv, .bool f.sure]
def encP (q : PR) : List Value := [.string q.name, .int .i64 (q.at' : Int), q.bv, .bool q.cut]
theorem encF_len (f : FR) : (encF f).length = 4 := rfl
theorem encP_len (q : PR) : (encP q).length = 4 := rfl
def FR.toF (f : FR) : RF := ⟨f.name, f.now, f.safe, f.sure⟩
def PR.toP (q : PR) : RP := ⟨q.name, q.at', q.b, q.cut⟩
structure RMem where
  room : Int
  changes : Int
  left : Int
  armed : Bool
  down : Bool
  fv : Value
  pv : Value
  fr : List FR
  pr : List PR
def RMem.st (R : RMem) : RD := ⟨R.room, R.changes, R.left, R.armed, R.down, R.fr.map FR.toF, R.pr.map PR.toP⟩

/-- The document's disk stands in block p, and owns F. -/
structure RefM (w : World) (F : Nat → Prop) (p : Nat) (R : RMem) : Prop where
  blk : Blk w p 32 #[.int .i64 R.room, .int .i64 R.changes, .int .i64 R.left, .bool R.armed, .bool R.down, R.fv, R.pv]
  fp : F p
  fs : Row w F 75 4 encF R.fv R.fr
  ps : Row w F 97 4 encP R.pv R.pr
  fb : ∀ f ∈ R.fr, BOwn w F f.nv f.now ∧ BOwn w F f.sv f.safe
  pb : ∀ q ∈ R.pr, BOwn w F q.bv q.b
section
variable {w w' : World} {F G : Nat → Prop} {p : Nat} {R : RMem}
theorem RefM.only (h : RefM w F p R) (ho : Only G w w') (hn : ∀ k, F k → ¬ G k) : RefM w' F p R :=
  ⟨h.blk.only ho (hn p h.fp), h.fp, h.fs.only ho hn, h.ps.only ho hn, fun f hf => ⟨(h.fb f hf).1.only ho hn, (h.fb f hf).2.only ho hn⟩, fun q hq => (h.pb q hq).only ho hn⟩
theorem RefM.mono (h : RefM w F p R) (hF : ∀ k, F k → G k) : RefM w G p R :=
  ⟨h.blk, hF p h.fp, h.fs.mono hF, h.ps.mono hF, fun f hf => ⟨(h.fb f hf).1.mono hF, (h.fb f hf).2.mono hF⟩, fun q hq => (h.pb q hq).mono hF⟩
theorem RefM.here (h : RefM w F p R) (ho : Only (fun _ => False) w w') : RefM w' F p R := h.only ho fun _ _ => id
/-- The fields. -/
theorem RefM.cells (h : RefM w F p R) : w.cell? ⟨p, 0, none⟩ = some (.int .i64 R.room) ∧ w.cell? ⟨p, 1, none⟩ = some (.int .i64 R.changes) ∧ w.cell? ⟨p, 2, none⟩ = some (.int .i64 R.left) ∧ w.cell? ⟨p, 3, none⟩ = some (.bool R.armed) ∧
    w.cell? ⟨p, 4, none⟩ = some (.bool R.down) ∧ w.cell? ⟨p, 5, none⟩ = some R.fv ∧ w.cell? ⟨p, 6, none⟩ = some R.pv := by
  refine ⟨?_, ?_, ?_, ?_, ?_, ?_, ?_⟩ <;> rw [h.blk.cell] <;> rfl
end
end Go.Proofs.Ytoihkanneiknkaa

namespace Go.Proofs.Ytoihkanneiknkaa
open Go.RowKit

theorem fr_cells {w : World} {F : Nat → Prop} {v : Value} {l : List FR} (h : Row w F 75 4 encF v l) (hn : 0 < l.length) :
    ∃ g cap, v = .slice (some ⟨g, 0, none⟩) l.length cap ∧ F g ∧ g < w.heap.size ∧ l.length ≤ cap ∧ cap ≤ maxLen ∧
      (∀ k (hl : k < l.length), w.cell? ⟨g, k * 4, none⟩ = some (.string l[k].name) ∧ w.cell? ⟨g, k * 4 + 1, none⟩ = some l[k].nv ∧ w.cell? ⟨g, k * 4 + 2, none⟩ = some l[k].sv ∧ w.cell? ⟨g, k * 4 + 3, none⟩ = some (.bool l[k].sure)) ∧ ∀ i, w.frozen? ⟨g, i, none⟩ = false := by
  obtain ⟨g, cap, h1, h2, h3, h4, h5, h6, h7⟩ := h.form encF_len hn
  exact ⟨g, cap, h1, h2, h3, h4, h5, fun k hl => ⟨by simpa using h6 k hl 0 _ rfl, h6 k hl 1 _ rfl, h6 k hl 2 _ rfl, h6 k hl 3 _ rfl⟩, h7⟩
theorem st_names (R : RMem) : R.st.names = R.fr.map (·.name) := by simp [RMem.st, RD.names, FR.toF, Function.comp_def]

theorem str_eq (a b : ByteArray) : (a.toList == b.toList) = decide (a = b) := by
  rw [Bool.eq_iff_iff, beq_iff_eq, decide_eq_true_iff, Lib.toList_data, Lib.toList_data]
  constructor
  · intro h
    cases a
    cases b
    simpa using h
  · rintro rfl; rfl
theorem str_yes {a b : ByteArray} (h : a = b) : (a.toList == b.toList) = true := by rw [str_eq]; simp [h]
theorem str_no {a b : ByteArray} (h : a ≠ b) : (a.toList == b.toList) = false := by rw [str_eq]; simp [h]

set_option maxHeartbeats 800000 in
theorem find_any (nm : ByteArray) (F : Nat → Prop) (p : Nat) (R : RMem) (w : World) (h : RefM w F p R) :
    Calls Try.prog 56 #[.pointer (some ⟨p, 0, none⟩), .string nm] w fun e w' => e = .returned (.int .i64 (posI nm R.st.names)) ∧ w = w' := by
  obtain ⟨c0, c1, c2, c3, c4, c5, c6⟩ := h.cells
  obtain ⟨A, c, hv, hlc, hcm, _⟩ := h.fs.value
  have HR := Lib.hid h
  clear c0 c1 c2 c3 c4 c6
  unfold maxLen at hcm
  rw [hv] at c5
  rw [st_names]
  go_enter Try.func56, Try.ntmps56
  go_wp2
  go_loop [5] (fun i => ∃ k : Nat, k ≤ R.fr.length ∧ i = .int .i64 k ∧ Hid (∀ j (hj : j < k) (hl : j < R.fr.length), (R.fr[j]'hl).name ≠ nm)) (fun i => R.fr.length - (intOf i).toNat)
  case atStart => exact ⟨0, Nat.zero_le _, rfl, fun j hj => by omega⟩
  case round =>
    obtain ⟨k, hk, rfl, HN⟩ := hrel
    by_cases hlt : k < R.fr.length
    · obtain ⟨g, cap, hv2, _, hgw, _, _, hc, _⟩ := fr_cells HR.out.fs (by omega)
      rw [hv] at hv2
      obtain ⟨rfl, rfl⟩ : A = some ⟨g, 0, none⟩ ∧ c = cap := by simpa using hv2
      obtain ⟨x0, _, _, _⟩ := hc k hlt
      have hi : (k : Int) < (R.fr.length : Int) := by omega
      clear hc hv2
      have HN1 : Hid (R.fr[k].name ≠ nm → ∀ j (hj : j < k + 1) (hl : j < R.fr.length), (R.fr[j]'hl).name ≠ nm) := Lib.hid (fun he j hj hl => by
        rcases Nat.lt_or_eq_of_le (Nat.le_of_lt_succ hj) with h1 | rfl
        · exact HN.out j h1 hl
        · exact he)
      have HY : Hid (R.fr[k].name = nm → posI nm (R.fr.map (·.name)) = k) := Lib.hid (fun he => by
        have : pos nm (R.fr.map (·.name)) = some k := pos_some.2 ⟨by simpa using hlt, by simpa using he, fun j hj => by simpa using HN.out j hj (by omega)⟩
        unfold posI
        rw [this])
      generalize R.fr[k].name = x at *
      by_cases he : x = nm
      · have hb := str_yes he
        have HE := Lib.hid (HY.out he)
        clear he HY HN1
        go_wp2
        go_ret
        rw [HE.out]
        exact ⟨rfl, rfl⟩
      · have hb := str_no he
        have HE := Lib.hid (HN1.out he)
        clear he HY HN1
        go_wp2
        go_round
        case rel => exact ⟨k + 1, by omega, by go_num, HE⟩
        case measure => simp [intOf]; omega
    · obtain rfl : k = R.fr.length := by omega
      have hp : posI nm (R.fr.map (·.name)) = -1 := by
        have : pos nm (R.fr.map (·.name)) = none := pos_none.2 (fun hm => by
          obtain ⟨f, hf, hfn⟩ := List.mem_map.1 hm
          obtain ⟨j, hj, rfl⟩ := List.getElem_of_mem hf
          exact HN.out j hj hj hfn)
        unfold posI
        rw [this]
      have HE := Lib.hid hp
      clear hp
      go_wp2
      go_ret
      rw [HE.out]
      exact ⟨rfl, rfl⟩

theorem sum_take (l : List FR) (k : Nat) (h : k < l.length) : ((l.take (k + 1)).map (·.now.length)).sum = ((l.take k).map (·.now.length)).sum + l[k].now.length := by
  rw [List.take_succ_eq_append_getElem h, List.map_append, List.sum_append]
  simp
theorem sum_le (l : List FR) (k : Nat) : ((l.take k).map (·.now.length)).sum ≤ (l.map (·.now.length)).sum := by
  conv => rhs; rw [← List.take_append_drop k l, List.map_append, List.sum_append]
  omega
theorem st_sum (R : RMem) : R.st.sum = (R.fr.map (·.now.length)).sum := by simp [RMem.st, RD.sum, FR.toF, Function.comp_def]

set_option maxHeartbeats 800000 in
theorem sum_any (F : Nat → Prop) (p : Nat) (R : RMem) (w : World) (h : RefM w F p R) (hs : R.st.sum ≤ 1152921504606846976) :
    Calls Try.prog 62 #[.pointer (some ⟨p, 0, none⟩)] w fun e w' => e = .returned (.int .i64 (R.st.sum : Int)) ∧ w = w' := by
  obtain ⟨c0, c1, c2, c3, c4, c5, c6⟩ := h.cells
  obtain ⟨A, c, hv, hlc, hcm, _⟩ := h.fs.value
  have HR := Lib.hid h
  clear c0 c1 c2 c3 c4 c6
  unfold maxLen at hcm
  rw [hv] at c5
  rw [st_sum] at hs ⊢
  go_enter Try.func62, Try.ntmps62
  go_wp2
  go_loop [3, 4] (fun v i => ∃ k n : Nat, k ≤ R.fr.length ∧ i = .int .i64 k ∧ v = .int .i64 n ∧ Hid (n = ((R.fr.take k).map (·.now.length)).sum)) (fun _ i => R.fr.length - (intOf i).toNat)
  case atStart => exact ⟨0, 0, Nat.zero_le _, rfl, rfl, rfl⟩
  case round =>
    obtain ⟨k, n, hk, rfl, rfl, HN⟩ := hrel
    by_cases hlt : k < R.fr.length
    · obtain ⟨g, cap, hv2, _, hgw, _, _, hc, _⟩ := fr_cells HR.out.fs (by omega)
      rw [hv] at hv2
      obtain ⟨rfl, rfl⟩ : A = some ⟨g, 0, none⟩ ∧ c = cap := by simpa using hv2
      obtain ⟨_, x1, _, _⟩ := hc k hlt
      obtain ⟨A1, c1, hn1, _, _, _⟩ := (HR.out.fb _ (List.getElem_mem hlt)).1.value
      rw [hn1] at x1
      have hi : (k : Int) < (R.fr.length : Int) := by omega
      have HT := Lib.hid (sum_take R.fr k hlt)
      have hle := sum_le R.fr (k + 1)
      rw [HT.out, ← HN.out] at hle
      have hm : n + R.fr[k].now.length ≤ 1152921504606846976 := by omega
      clear hc hv2 hn1 hle
      generalize R.fr[k].now.length = m at *
      go_wp2
      go_round
      case rel => exact ⟨k + 1, n + m, by omega, by go_num, by go_num, by show _ = _; rw [HT.out, HN.out]⟩
      case measure => simp [intOf]; omega
    · obtain rfl : k = R.fr.length := by omega
      have hn := HN.out
      rw [List.take_length] at hn
      subst hn
      clear hs
      go_wp2
      go_ret
      exact ⟨rfl, rfl⟩
end Go.Proofs.Ytoihkanneiknkaa

namespace Go.Proofs.Ytoihkanneiknkaa
open Go.RowKit

def okB (c : UInt8) : Bool := decide (97 ≤ c.toNat) && decide (c.toNat ≤ 122)
theorem named_eq (s : ByteArray) : named s = (decide (1 ≤ s.size) && decide (s.size ≤ 16) && s.data.toList.all okB) := rfl

set_option maxHeartbeats 800000 in
theorem named_any (s : ByteArray) (w : World) (hs : s.size ≤ 9223372036854775807) :
    Calls Try.prog 55 #[.string s] w fun e w' => e = .returned (.bool (named s)) ∧ w = w' := by
  by_cases h1 : 1 ≤ s.size
  · by_cases h2 : s.size ≤ 16
    · have HE := Lib.hid (named_eq s)
      rw [decide_eq_true h1, decide_eq_true h2, Bool.true_and, Bool.true_and] at HE
      have h1' : (1 : Int) ≤ (s.size : Int) := by omega
      have h2' : (s.size : Int) ≤ 16 := by omega
      go_enter Try.func55, Try.ntmps55
      go_wp2
      go_loop [3] (fun i => ∃ k : Nat, k ≤ s.size ∧ i = .int .i64 k ∧ Hid ((s.data.toList.take k).all okB = true)) (fun i => s.size - (intOf i).toNat)
      case atStart => exact ⟨0, Nat.zero_le _, rfl, rfl⟩
      case round =>
        obtain ⟨k, hk, rfl, HN⟩ := hrel
        by_cases hlt : k < s.size
        · have hi : (k : Int) < (s.size : Int) := by omega
          have hl : k < s.data.toList.length := by simpa using hlt
          have e1 : s.data.toList[k] = s[k] := by simp; rfl
          have HT : Hid ((s.data.toList.take (k + 1)).all okB = okB s[k]) := Lib.hid (by
            rw [List.take_succ_eq_append_getElem hl, List.all_append, HN.out, e1]
            simp)
          have HF : Hid (okB s[k] = false → named s = false) := Lib.hid (fun hf => by
            rw [HE.out, List.all_eq_false]
            exact ⟨s[k], by rw [← e1]; exact List.getElem_mem hl, by simp [hf]⟩)
          have ho : okB s[k] = (decide (97 ≤ s[k].toNat) && decide (s[k].toNat ≤ 122)) := rfl
          rw [ho] at HT HF
          clear ho e1
          by_cases hc1 : 97 ≤ s[k].toNat
          · have hc1' : (97 : Int) ≤ (s[k].toNat : Int) := by omega
            by_cases hc2 : s[k].toNat ≤ 122
            · have hc2' : (s[k].toNat : Int) ≤ 122 := by omega
              rw [decide_eq_true hc1, decide_eq_true hc2] at HT
              clear hc1 hc2 HF
              go_wp2
              go_round
              case rel => exact ⟨k + 1, by omega, by go_num, HT⟩
              case measure => simp [intOf]; omega
            · have hc2' : (122 : Int) < (s[k].toNat : Int) := by omega
              have HR := Lib.hid (HF.out (by simp; omega))
              clear hc1 hc2 HF HT
              go_wp2
              go_ret
              rw [HR.out]
              exact ⟨rfl, rfl⟩
          · have hc1' : (s[k].toNat : Int) < 97 := by omega
            have HR := Lib.hid (HF.out (by simp; omega))
            clear hc1 HF HT
            go_wp2
            go_ret
            rw [HR.out]
            exact ⟨rfl, rfl⟩
        · obtain rfl : k = s.size := by omega
          have hn := HN.out
          rw [List.take_of_length_le (by simp)] at hn
          have HR := Lib.hid (HE.out.trans hn)
          clear hn HN HE
          go_wp2
          go_ret
          rw [HR.out]
          exact ⟨rfl, rfl⟩
    · have HE : Hid (named s = false) := Lib.hid (by rw [named_eq, decide_eq_false h2]; simp)
      have h1' : (1 : Int) ≤ (s.size : Int) := by omega
      have h2' : (16 : Int) < (s.size : Int) := by omega
      clear h1 h2
      go_enter Try.func55, Try.ntmps55
      go_wp2
      go_ret
      rw [HE.out]
      exact ⟨rfl, rfl⟩
  · have HE : Hid (named s = false) := Lib.hid (by rw [named_eq, decide_eq_false h1]; simp)
    have h1' : (s.size : Int) < 1 := by omega
    clear h1
    go_enter Try.func55, Try.ntmps55
    go_wp2
    go_ret
    rw [HE.out]
    exact ⟨rfl, rfl⟩

/-! ### A field is stored -/
def RMem.blkOf (R : RMem) : Array Value := #[.int .i64 R.room, .int .i64 R.changes, .int .i64 R.left, .bool R.armed, .bool R.down, R.fv, R.pv]
theorem RefM.blk' {w : World} {F : Nat → Prop} {p : Nat} {R : RMem} (h : RefM w F p R) : Blk w p 32 R.blkOf := h.blk
theorem only_field {w : World} {F : Nat → Prop} {p : Nat} {R : RMem} (_h : RefM w F p R) (i : Nat) (u : Value) : Only (fun k => k = p) w (w.setCell ⟨p, i, none⟩ u) := (Only.refl (fun k => k = p) w).setCell (p := ⟨p, i, none⟩) (.inl rfl) u
/-- The rows and the bytes stay where the disk's own block turns. -/
theorem RefM.field {w : World} {F : Nat → Prop} {p : Nat} {R : RMem} (h : RefM w F p R) (i : Nat) (u : Value) (R' : RMem) (hf : R'.fv = R.fv) (hp : R'.pv = R.pv) (hfr : R'.fr = R.fr) (hpr : R'.pr = R.pr) (hc : R.blkOf.setIfInBounds i u = R'.blkOf) :
    RefM (w.setCell ⟨p, i, none⟩ u) F p R' where
  blk := by
    have := h.blk'.set_ i u
    rw [hc] at this
    exact this
  fp := h.fp
  fs := by
    rw [hf, hfr]
    exact h.fs.off (only_field h i u) fun k hk e => own_blk_ne h.fs.own h.blk (by decide) (e ▸ hk)
  ps := by
    rw [hp, hpr]
    exact h.ps.off (only_field h i u) fun k hk e => own_blk_ne h.ps.own h.blk (by decide) (e ▸ hk)
  fb := by
    rw [hfr]
    exact fun f hf => ⟨(h.fb f hf).1.off (only_field h i u) fun k hk e => (h.fb f hf).1.ne h.blk (by decide) k hk e, (h.fb f hf).2.off (only_field h i u) fun k hk e => (h.fb f hf).2.ne h.blk (by decide) k hk e⟩
  pb := by
    rw [hpr]
    exact fun q hq => (h.pb q hq).off (only_field h i u) fun k hk e => (h.pb q hq).ne h.blk (by decide) k hk e

/-- What change does. -/
def RMem.tick (R : RMem) : RMem := if R.armed && decide (R.left = 0) then { R with down := true } else { R with left := if R.armed then R.left - 1 else R.left, changes := R.changes + 1 }
theorem tick_st (R : RMem) : R.tick.st = if R.st.stops then R.st.off else R.st.ticked := by
  unfold RMem.tick RD.stops
  show _ = if (R.armed && decide (R.left = 0)) = true then _ else _
  split <;> rfl

set_option maxHeartbeats 800000 in
theorem change_any (F : Nat → Prop) (p : Nat) (R : RMem) (w : World) (h : RefM w F p R) (hc : 0 ≤ R.changes ∧ R.changes ≤ 1152921504606846976) (hl : 0 ≤ R.left ∧ R.left ≤ 9223372036854775807) :
    Calls Try.prog 58 #[.pointer (some ⟨p, 0, none⟩)] w fun e w' => e = .returned (.int .i64 (if R.st.stops then 8 else 0)) ∧ RefM w' F p R.tick ∧ Only F w w' := by
  obtain ⟨c0, c1, c2, c3, c4, c5, c6⟩ := h.cells
  have HR := Lib.hid h
  have fz := h.blk.frozen
  have HF := Lib.hid h.fp
  have hst : R.st.stops = (R.armed && decide (R.left = 0)) := rfl
  rw [hst]
  have HT : Hid (R.tick = if R.armed && decide (R.left = 0) then { R with down := true } else { R with left := if R.armed then R.left - 1 else R.left, changes := R.changes + 1 }) := rfl
  obtain ⟨hc1, hc2⟩ := hc
  obtain ⟨hl1, hl2⟩ := hl
  clear h hst
  rcases ha : R.armed with _ | _
  · rw [ha] at c3
    simp only [ha, Bool.false_and, Bool.false_eq_true, if_false] at HT ⊢
    have H2 := Lib.hid (HR.out.field 1 (.int .i64 (R.changes + 1)) { R with changes := R.changes + 1 } rfl rfl rfl rfl (by simp [RMem.blkOf]))
    go_enter Try.func58, Try.ntmps58
    go_wp2
    go_ret
    rw [HT.out]
    have e : ({ room := R.room, changes := R.changes + 1, left := R.left, armed := false, down := R.down, fv := R.fv, pv := R.pv, fr := R.fr, pr := R.pr } : RMem) = { R with changes := R.changes + 1 } := by rw [← ha]
    rw [e]
    exact ⟨rfl, H2.out, (Only.refl _ _).setCell (.inl HF.out) _⟩
  · rw [ha] at c3
    by_cases h0 : R.left = 0
    · rw [h0] at c2
      simp only [ha, h0, decide_true, Bool.and_true, if_true] at HT ⊢
      have H2 := Lib.hid (HR.out.field 4 (.bool true) { R with down := true } rfl rfl rfl rfl (by simp [RMem.blkOf]))
      go_enter Try.func58, Try.ntmps58
      go_wp2
      go_ret
      rw [HT.out]
      have e : ({ room := R.room, changes := R.changes, left := 0, armed := true, down := true, fv := R.fv, pv := R.pv, fr := R.fr, pr := R.pr } : RMem) = { R with down := true } := by rw [← ha, ← h0]
      rw [e]
      exact ⟨rfl, H2.out, (Only.refl _ _).setCell (.inl HF.out) _⟩
    · have h0' : 1 ≤ R.left := by omega
      simp only [ha, decide_eq_false h0, Bool.and_false, Bool.false_eq_true, if_false, if_true] at HT ⊢
      have H2 := Lib.hid ((HR.out.field 2 (.int .i64 (R.left - 1)) { R with left := R.left - 1 } rfl rfl rfl rfl (by simp [RMem.blkOf])).field 1 (.int .i64 (R.changes + 1)) { R with left := R.left - 1, changes := R.changes + 1 } rfl rfl rfl rfl (by simp [RMem.blkOf]))
      clear h0
      go_enter Try.func58, Try.ntmps58
      go_wp2
      go_ret
      rw [HT.out]
      have e : ({ room := R.room, changes := R.changes + 1, left := R.left - 1, armed := true, down := R.down, fv := R.fv, pv := R.pv, fr := R.fr, pr := R.pr } : RMem) = { R with left := R.left - 1, changes := R.changes + 1 } := by rw [← ha]
      rw [e]
      exact ⟨rfl, H2.out, ((Only.refl _ _).setCell (.inl HF.out) _).setCell (.inl HF.out) _⟩
end Go.Proofs.Ytoihkanneiknkaa

namespace Go.Proofs.Ytoihkanneiknkaa
open Go.RowKit

theorem posI_none {nm : ByteArray} {l : List ByteArray} (h : pos nm l = none) : posI nm l = -1 := by unfold posI; rw [h]
theorem posI_some {nm : ByteArray} {l : List ByteArray} {k : Nat} (h : pos nm l = some k) : posI nm l = k := by unfold posI; rw [h]
theorem find_lt {R : RMem} {nm : ByteArray} {k : Nat} (h : R.st.find nm = some k) : k < R.fr.length := by
  obtain ⟨h1, _⟩ := pos_some.1 h
  simpa [st_names] using h1
theorem had_some {R : RMem} {nm : ByteArray} {k : Nat} (h : R.st.find nm = some k) : R.st.had nm = (R.fr[k]'(find_lt h)).now.length := by
  have hk := find_lt h
  unfold RD.had
  rw [h]
  simp [RMem.st, List.getElem?_eq_getElem hk, FR.toF]
theorem had_none {R : RMem} {nm : ByteArray} (h : R.st.find nm = none) : R.st.had nm = 0 := by unfold RD.had; rw [h]
theorem had_le (R : RMem) (nm : ByteArray) : R.st.had nm ≤ R.st.sum := by
  rcases hf : R.st.find nm with _ | k
  · rw [had_none hf]; omega
  · rw [had_some hf, st_sum]
    have h1 := sum_take R.fr k (find_lt hf)
    have h2 := sum_le R.fr (k + 1)
    omega

/-- What stands within bounds. -/
structure RMem.Fine (R : RMem) : Prop where
  sum : R.st.sum ≤ 549755813888
  room : 0 ≤ R.room ∧ R.room ≤ 1152921504606846976
  chg : 0 ≤ R.changes ∧ R.changes ≤ 1152921504606846976
  left : 0 ≤ R.left ∧ R.left ≤ 9223372036854775807

set_option maxHeartbeats 1600000 in
theorem fits_any (nm : ByteArray) (size : Nat) (F : Nat → Prop) (p : Nat) (R : RMem) (w : World) (h : RefM w F p R) (hf : R.Fine) (hz : size ≤ 1152921504606846976) :
    Calls Try.prog 57 #[.pointer (some ⟨p, 0, none⟩), .string nm, .int .i64 size] w fun e w' => e = .returned (.int .i64 (R.st.fits nm size : Int)) ∧ Only (fun _ => False) w w' := by
  obtain ⟨c0, c1, c2, c3, c4, c5, c6⟩ := h.cells
  obtain ⟨A, c, hv, hlc, hcm, _⟩ := h.fs.value
  have HR := Lib.hid h
  have HFind := Lib.hid (find_any nm F p R w h)
  have HSum : ∀ n, Hid (Calls Try.prog 62 #[.pointer (some ⟨p, 0, none⟩)] (w.drewN n) fun e w' => e = .returned (.int .i64 (R.st.sum : Int)) ∧ w' = w.drewN n) := fun n => Lib.hid ((sum_any F p R (w.drewN n) (h.here ((Only.refl _ w).drewN n)) (Nat.le_trans hf.sum (by decide))).mono fun _ _ ⟨h1, h2⟩ => ⟨h1, h2.symm⟩)
  have HO := Lib.hid (Only.refl (fun _ => False) w)
  have hs := hf.sum
  have hr1 := hf.room.1
  have hr2 := hf.room.2
  have hlen : R.st.files.length = R.fr.length := by simp [RMem.st]
  have hlei := had_le R nm
  unfold maxLen at hcm
  rw [hv] at c5
  clear h c1 c2 c3 c4 c6
  rcases hfd : R.st.find nm with _ | k
  · have hp := posI_none hfd
    have hh := had_none hfd
    have HE : Hid (R.st.fits nm size = if R.fr.length = 16 then 11 else if 0 < size ∧ R.room < (R.st.sum : Int) + size then 7 else 0) := Lib.hid (by
      unfold RD.fits
      rw [hfd, hh, hlen]
      simp only [true_and, Int.natCast_zero, Int.sub_zero]
      rfl)
    rw [hp] at HFind
    clear hfd hp hh hlei
    by_cases h16 : R.fr.length = 16
    · rw [h16] at c5
      rw [if_pos h16] at HE
      go_enter Try.func57, Try.ntmps57
      go_wp2_with (go_at_call 56; refine HFind.out.mono ?_; rintro e w' ⟨rfl, rfl⟩)
      go_ret
      rw [HE.out]
      exact ⟨rfl, HO.out⟩
    · have hb : ((R.fr.length : Int) == 16) = false := by rw [beq_eq_false_iff_ne]; omega
      rw [if_neg h16] at HE
      clear h16
      generalize R.st.sum = sm at *
      by_cases hz0 : 0 < size
      · have hz1 : (0 : Int) < (size : Int) := by omega
        by_cases hrm : R.room < (sm : Int) + size
        · rw [if_pos ⟨hz0, hrm⟩] at HE
          go_enter Try.func57, Try.ntmps57
          go_wp2_with (go_at_call 56; refine HFind.out.mono ?_; rintro e w' ⟨rfl, rfl⟩)
          go_quiet ((go_at_call 62; exact Calls.quiet_of_same (HSum _).out))
          go_wp2_with fail
          go_ret
          rw [HE.out]
          exact ⟨rfl, HO.out.drewN _⟩
        · have hrm' : (sm : Int) + size ≤ R.room := by omega
          rw [if_neg (fun hh => hrm hh.2)] at HE
          clear hrm
          go_enter Try.func57, Try.ntmps57
          go_wp2_with (go_at_call 56; refine HFind.out.mono ?_; rintro e w' ⟨rfl, rfl⟩)
          go_quiet ((go_at_call 62; exact Calls.quiet_of_same (HSum _).out))
          go_wp2_with fail
          go_ret
          rw [HE.out]
          exact ⟨rfl, HO.out.drewN _⟩
      · obtain rfl : size = 0 := by omega
        rw [if_neg (fun hh => hz0 hh.1)] at HE
        have hz1 : decide ((((0 : Nat) : Int)) > 0) = false := by decide
        clear hz0
        go_enter Try.func57, Try.ntmps57
        go_wp2_with (go_at_call 56; refine HFind.out.mono ?_; rintro e w' ⟨rfl, rfl⟩)
        go_quiet (fail)
        go_wp2_with fail
        go_ret
        rw [HE.out]
        exact ⟨rfl, HO.out.drewN _⟩
  · have hp := posI_some hfd
    have hh := had_some hfd
    have hk := find_lt hfd
    obtain ⟨g, cap, hv2, _, hgw, _, _, hcell, _⟩ := fr_cells HR.out.fs (by omega)
    rw [hv] at hv2
    obtain ⟨rfl, rfl⟩ : A = some ⟨g, 0, none⟩ ∧ c = cap := by simpa using hv2
    obtain ⟨_, x1, _, _⟩ := hcell k hk
    obtain ⟨A1, cc1, hn1, _, _, _⟩ := (HR.out.fb _ (List.getElem_mem hk)).1.value
    rw [hn1] at x1
    have HE : Hid (R.st.fits nm size = if R.fr[k].now.length < size ∧ R.room < (R.st.sum : Int) - R.fr[k].now.length + size then 7 else 0) := Lib.hid (by
      unfold RD.fits
      rw [hh, if_neg (by rw [hfd]; simp)]
      rfl)
    rw [hp] at HFind
    rw [hh] at hlei
    have hki : (k : Int) < (R.fr.length : Int) := by omega
    have hk0 : (0 : Int) ≤ (k : Int) := by omega
    clear hp hh hcell hn1 hv2
    generalize R.fr[k].now.length = m at *
    clear hfd
    generalize R.st.sum = sm at *
    by_cases hz0 : m < size
    · have hz1 : (m : Int) < (size : Int) := by omega
      by_cases hrm : R.room < (sm : Int) - m + size
      · rw [if_pos ⟨hz0, hrm⟩] at HE
        go_enter Try.func57, Try.ntmps57
        go_wp2_with (go_at_call 56; refine HFind.out.mono ?_; rintro e w' ⟨rfl, rfl⟩)
        go_quiet ((go_at_call 62; exact Calls.quiet_of_same (HSum _).out))
        go_wp2_with fail
        go_ret
        rw [HE.out]
        exact ⟨rfl, HO.out.drewN _⟩
      · have hrm' : (sm : Int) - m + size ≤ R.room := by omega
        rw [if_neg (fun hh => hrm hh.2)] at HE
        clear hrm
        go_enter Try.func57, Try.ntmps57
        go_wp2_with (go_at_call 56; refine HFind.out.mono ?_; rintro e w' ⟨rfl, rfl⟩)
        go_quiet ((go_at_call 62; exact Calls.quiet_of_same (HSum _).out))
        go_wp2_with fail
        go_ret
        rw [HE.out]
        exact ⟨rfl, HO.out.drewN _⟩
    · have hz1 : decide (m < size) = false := decide_eq_false hz0
      rw [if_neg (fun hh => hz0 hh.1)] at HE
      clear hz0
      go_enter Try.func57, Try.ntmps57
      go_wp2_with (go_at_call 56; refine HFind.out.mono ?_; rintro e w' ⟨rfl, rfl⟩)
      go_quiet (fail)
      go_wp2_with fail
      go_ret
      rw [HE.out]
      exact ⟨rfl, HO.out.drewN _⟩
end Go.Proofs.Ytoihkanneiknkaa
