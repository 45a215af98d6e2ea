/- Contract of the landed disk's piece: on. Conditions: the bytes are owned, the piece's are read elsewhere. -/
import Derived.Test.YtoihkanneiknkaaDlF
import Derived.Test.YtoihkanneiknkaaDkX
namespace Go.Proofs.Ytoihkanneiknkaa
open Go.RowKit Go.Maps
attribute [local go_sem ↓] Go.wp_at_zero Go.wp_at_succ

theorem lay_splice (l k : List UInt8) (at' : Nat) (l1 : List UInt8) (h1 : l1 = l ++ List.replicate (at' - l.length) 0) : splice l1 at' (k.take (l1.length - at')) ++ k.drop (l1.length - at') = layB l at' k := by
  have hl1 : l1.length = max l.length at' := by rw [h1]; simp; omega
  unfold splice layB
  have e0 : l1.take at' = (l ++ List.replicate (at' + k.length - l.length) 0).take at' := by
    rw [h1, List.take_append, List.take_append]
    congr 1
    simp only [List.take_replicate]
    congr 1
    omega
  rw [e0]
  by_cases hm : k.length ≤ l1.length - at'
  · rw [List.take_of_length_le hm, List.drop_of_length_le hm, List.append_nil, List.append_assoc]
    congr 2
    rw [h1, List.drop_append, List.drop_replicate]
    have : at' - l.length - (at' + k.length - l.length) = 0 := by omega
    rw [this, List.replicate_zero, List.append_nil]
  · have e1 : l1.drop (at' + (k.take (l1.length - at')).length) = [] := List.drop_of_length_le (by simp; omega)
    have e2 : l.drop (at' + k.length) = [] := List.drop_of_length_le (by omega)
    rw [e1, e2, List.append_nil, List.append_nil, List.append_assoc, List.take_append_drop]
theorem bv_take (l : List UInt8) (n : Nat) : bv (l.take n) = (bv l).take n := by simp [bv, List.map_take]
theorem bv_drop (l : List UInt8) (n : Nat) : bv (l.drop n) = (bv l).drop n := by simp [bv, List.map_drop]
theorem bv_zeros (n : Nat) : bv (List.replicate n 0) = List.replicate n (.int .u8 0) := by simp [bv]
theorem bv_splice (l : List UInt8) (o : Nat) (k : List UInt8) : bv (splice l o k) = splice (bv l) o (bv k) := by
  unfold splice
  rw [bv_append, bv_append, bv_take, bv_drop, bv_length]

/-- What has become of bytes that were owned. -/
def OnAt (v : Value) (l' : List UInt8) (w : World) (e : Ending) (w' : World) : Prop := ∃ v', e = .returned v' ∧ w'.ownsRow 0 5 1 v' l'.length (bv l') ∧ w.grownBy w' v.ownBlock ∧ ∀ j, v'.ownBlock = some j → v.ownBlock = some j ∨ w.heap.size ≤ j
theorem u8size : (Try.prog.info? 5).map (·.size) = some 1 := by kernel_rfl
theorem intInfo : Try.prog.underlying 3 = some (.int .i64) := Try.underlying3
theorem own_cut {w : World} {A : Option Addr} {l : List UInt8} {c : Nat} (h : w.ownsRow 0 5 1 (.slice A l.length c) l.length (bv l)) (n : Nat) (hn : n ≤ l.length) : w.ownsRow 0 5 1 (.slice A n c) (l.take n).length (bv (l.take n)) := by
  have hln : (l.take n).length = n := by rw [List.length_take]; omega
  rw [hln]
  refine ⟨by rw [bv_length, hln]; omega, ?_⟩
  rcases h.2 with ⟨e, h0⟩ | ⟨g, cap, cur, e, hb, hh, hc, hm, hs, ht⟩
  · left
    have : n = 0 := by omega
    subst this
    injection e with e1 e2 e3
    exact ⟨by rw [e1, e3], rfl⟩
  · right
    injection e with e1 e2 e3
    refine ⟨g, cap, cur, by rw [e1, e3], hb, hh, by omega, hm, hs, ?_⟩
    rw [Nat.mul_one] at ht ⊢
    rw [bv_take, ← ht, List.take_take, Nat.min_eq_left hn]

set_option maxRecDepth 100000 in
set_option maxHeartbeats 1600000 in
theorem on_cut (nm : ByteArray) (n : Nat) (vb : Value) (l : List UInt8) (A : Option Addr) (c : Nat) (w : World) (hown : w.ownsRow 0 5 1 (.slice A l.length c) l.length (bv l)) (hb : l.length ≤ 35184372088832) (hn : n ≤ 35184372088832) :
    Calls Try.prog 48 #[.agg #[.string nm, .int .i64 (n : Int), vb, .bool true], .slice A l.length c] w fun e w' => OnAt (.slice A l.length c) (l.take n) w e w' := by
  obtain ⟨_, _, e, hlc, hcm, -, -⟩ := own_form hown
  injection e with e1 e2 e3
  clear e2
  subst e1
  subst e3
  unfold maxLen at hcm
  have HC : Hid (OnAt (.slice A l.length c) (l.take n) w (.returned (.slice A (min (n : Int) (l.length : Int)).toNat c)) (w.alloc (.cells #[.string nm, .int .i64 (n : Int), vb, .bool true] 88))) := Lib.hid (by
    have e : (min (n : Int) (l.length : Int)).toNat = min n l.length := by omega
    rw [e]
    have h1 := own_cut hown (min n l.length) (Nat.min_le_right _ _)
    have e2 : l.take (min n l.length) = l.take n := by rw [← List.take_take, List.take_length]
    rw [e2] at h1
    exact ⟨_, rfl, h1.alloc _, World.grownBy_alloc _ _ _, fun j hj => .inl (by rcases A with _ | ad <;> exact hj)⟩)
  clear hown
  go_enter Try.func48, Try.ntmps48
  go_wp2
  go_ret
  exact HC.out

/-- Behind the zeros that are put in. -/
def PadAt (v : Value) (l1 : List UInt8) (w : World) (s1 : Value) (wx : World) : Prop := ∃ A1 c1, s1 = .slice A1 l1.length c1 ∧ wx.ownsRow 0 5 1 (.slice A1 l1.length c1) l1.length (bv l1) ∧ (w.grownBy wx v.ownBlock) ∧ ∀ j, (Value.slice A1 l1.length c1).ownBlock = some j → v.ownBlock = some j ∨ w.heap.size ≤ j
set_option maxRecDepth 100000 in
set_option maxHeartbeats 4000000 in
theorem on_write (nm : ByteArray) (n : Nat) (k : List UInt8) (Ak : Option Addr) (ck : Nat) (l : List UInt8) (A : Option Addr) (c : Nat) (w : World) (hown : w.ownsRow 0 5 1 (.slice A l.length c) l.length (bv l))
    (hk : Reads w w.heap.size 1 Ak k.length (bv k)) (hck : k.length ≤ ck) (hne : ∀ ad, Ak = some ad → (Value.slice A l.length c).ownBlock ≠ some ad.block) (hb : l.length ≤ 35184372088832) (hn : n + k.length ≤ 35184372088832) :
    Calls Try.prog 48 #[.agg #[.string nm, .int .i64 (n : Int), .slice Ak k.length ck, .bool false], .slice A l.length c] w fun e w' => OnAt (.slice A l.length c) (layB l n k) w e w' := by
  obtain ⟨i0, hi0, hz0, hz1, hz2⟩ := info_parts u8info
  obtain ⟨_, _, e, hlc, hcm, -, -⟩ := own_form hown
  injection e with e1 e2 e3
  clear e2
  subst e1
  subst e3
  unfold maxLen at hcm
  obtain ⟨l1, hl1⟩ : ∃ l1, l1 = l ++ List.replicate (n - l.length) 0 := ⟨_, rfl⟩
  have HL := Lib.hid hl1
  have hll : l1.length = max l.length n := by rw [hl1]; simp; omega
  have HLL := Lib.hid hll
  have hb1 : l1.length ≤ 35184372088832 := by omega
  have hn1 : n ≤ l1.length := by omega
  have HO := Lib.hid hown
  have HK := Lib.hid hk
  have HN := Lib.hid hne
  have hlt1 : w.ownsRow 0 5 1 (.slice A l.length c) l.length (bv l) := hown
  have HOlt : Hid (∀ j, (Value.slice A l.length c).ownBlock = some j → j < w.heap.size) := Lib.hid (fun j hj => (hown.lt j hj).2)
  clear hown hk hne hl1 hll hlt1
  go_enter Try.func48, Try.ntmps48
  go_upto_if 19 with fail
  go_cut [1] (fun s1 wx => PadAt (.slice A l.length c) l1 (w.alloc (.cells #[.string nm, .int .i64 (n : Int), .slice Ak k.length ck, .bool false] 88)) s1 wx)
  case first =>
    by_cases hlt : l.length < n
    · have hm : ((n - l.length : Nat) : Int) = (n : Int) - (l.length : Int) := by omega
      have HM := Lib.hid hm
      have h0 : 0 < n - l.length := by omega
      clear hm
      go_wp2_with (at_builtin; refine wpList_append_zeros _ rfl (.tmp 20) (.tmp 25) 41 3 rfl 5 i0 (.int .u8 0) Try.underlying41 intInfo hi0 hz0 rfl rfl hz1 hz2 (.slice A l.length c) l.length (bv l) rfl (HO.out.alloc _) (n - l.length) (congrArg (Value.int IntKind.i64) HM.out.symm) h0 (by omega) ?_; intro v1 w1 hown1 hg1 hat1)
      have HP : Hid (PadAt (.slice A l.length c) l1 (w.alloc (.cells #[.string nm, .int .i64 (n : Int), .slice Ak k.length ck, .bool false] 88)) v1 w1) := Lib.hid (by
        have e : l.length + (n - l.length) = l1.length := by have := HLL.out; omega
        have e2 : bv l ++ List.replicate (n - l.length) (.int .u8 0) = bv l1 := by rw [HL.out, bv_append, bv_zeros]
        rw [e, e2] at hown1
        obtain ⟨A1, c1, rfl⟩ := own_slice hown1
        exact ⟨A1, c1, rfl, hown1, hg1, fun j hj => by
          rcases hat1 with h1 | h1
          · rw [← h1]; exact .inl hj
          · rw [h1] at hj
            injection hj with hj
            exact .inr (by omega)⟩)
      clear hown1 hg1 hat1
      go_wp2_with fail
      go_meet
      exact HP.out
    · have hge : n ≤ l.length := by omega
      have HP : Hid (PadAt (.slice A l.length c) l1 (w.alloc (.cells #[.string nm, .int .i64 (n : Int), .slice Ak k.length ck, .bool false] 88)) (.slice A l.length c) (w.alloc (.cells #[.string nm, .int .i64 (n : Int), .slice Ak k.length ck, .bool false] 88))) := Lib.hid (by
        have e : l1 = l := by rw [HL.out]; simp; omega
        rw [e]
        exact ⟨A, c, rfl, HO.out.alloc _, World.grownBy.refl _ _, fun j hj => .inl hj⟩)
      clear hlt
      go_wp2_with fail
      go_meet
      exact HP.out
  case rest =>
    obtain ⟨A1, c1, rfl, hown1, hg1, hat1⟩ := hcut
    have hbox : ∀ i, wc.cell? ⟨w.heap.size, i, none⟩ = (#[.string nm, .int .i64 (n : Int), .slice Ak k.length ck, .bool false] : Array Value)[i]? := fun i => by
      have hb0 : Blk wc w.heap.size 88 #[.string nm, .int .i64 (n : Int), .slice Ak k.length ck, .bool false] := (Blk.new w _ _).grown hg1 (fun e => by have := HOlt.out _ e.symm; omega)
      exact hb0.cell i
    have b1 := hbox 1
    have b2 := hbox 2
    simp only [List.getElem?_toArray, List.getElem?_cons_succ, List.getElem?_cons_zero] at b1 b2
    obtain ⟨_, _, e, hlc1, hcm1, -, -⟩ := own_form hown1
    injection e with e1 e2 e3
    clear e2
    subst e1
    subst e3
    unfold maxLen at hcm1
    have hn1' : (n : Int) ≤ (l1.length : Int) := by omega
    have hn2' : (n : Int) ≤ (c1 : Int) := by omega
    obtain ⟨cs, hcs⟩ : ∃ cs, cs = bv (k.take (l1.length - n)) := ⟨_, rfl⟩
    have HCs := Lib.hid hcs
    have hcl : cs.length = min k.length (l1.length - n) := by rw [hcs, bv_length, List.length_take, Nat.min_comm]
    have HCl := Lib.hid hcl
    have hml : cs.length ≤ k.length := by omega
    have hml' : (cs.length : Int) ≤ (k.length : Int) := by omega
    have hmk' : (cs.length : Int) ≤ (ck : Int) := by omega
    have hmn : n + cs.length ≤ l1.length := by omega
    have HO1 := Lib.hid hown1
    have HG1 := Lib.hid hg1
    have HA1 := Lib.hid hat1
    have HBox := Lib.hid hbox
    have hlow : ∀ ad, Ak = some ad → ad.block < w.heap.size → ∀ j, wc.cell? (ad.add j) = w.cell? (ad.add j) := fun ad had hlt j => by
      have h1 : wc.heap[ad.block]? = (w.alloc (.cells #[.string nm, .int .i64 (n : Int), .slice Ak k.length ck, .bool false] 88)).heap[ad.block]? := HG1.out.block ad.block (by simp; omega) (fun e => HN.out ad had e.symm)
      have h2 := Below.heap_alloc w (.cells #[.string nm, .int .i64 (n : Int), .slice Ak k.length ck, .bool false] 88) ad.block hlt
      exact World.cell?_of_block (by rw [block_of_add]; exact h1.trans h2)
    have HPos : Hid (0 < cs.length → (∃ g, (Value.slice A1 l1.length c1).ownBlock = some g ∧ (if c1 = n then A1 else Option.map (fun x => x.add n) A1) = some ⟨g, n, none⟩) ∧ ∃ ad, Ak = some ad ∧ ∀ j v, cs[j]? = some v → wc.drew.cell? (ad.add j) = some v) := Lib.hid (fun h0 => by
      constructor
      · have hc : c1 ≠ n := by omega
        rw [if_neg hc]
        rcases HO1.out.2 with ⟨e, e0⟩ | ⟨g, cap, cur, e, -⟩
        · omega
        · injection e with e1 _ _
          subst e1
          refine ⟨g, rfl, ?_⟩
          rw [Option.map_some]
          congr 1
          unfold Addr.add
          by_cases hn0 : n = 0
          · simp [hn0]
          · simp [hn0]
      · obtain ⟨ad, had, hlt, hcell⟩ := HK.out.2 (by omega)
        refine ⟨ad, had, fun j v hj => (hlow ad had hlt j).trans (hcell j v ?_)⟩
        rw [HCs.out, bv_take, List.getElem?_take] at hj
        split at hj
        · exact hj
        · cases hj)
    have HLow := Lib.hid hlow
    have hcs1 : ∀ v ∈ cs, v.oneCell' = true := by rw [hcs]; exact bv_one _
    have HOne := Lib.hid hcs1
    have HRd : Hid (∀ w2, wc.drew.grownBy w2 (Value.slice A1 l1.length c1).ownBlock → Reads w2 w.heap.size 1 (if ck = cs.length then Ak else Option.map (fun x => x.add cs.length) Ak) (k.length - cs.length) ((bv k).drop cs.length)) := Lib.hid (fun w2 hg2 => by
      have h1 : Reads w2 w.heap.size 1 Ak k.length (bv k) := ⟨HK.out.1, fun h0 => by
        obtain ⟨ad, had, hlt, hcell⟩ := HK.out.2 h0
        refine ⟨ad, had, hlt, fun j u hu => ?_⟩
        have h2 : w2.heap[ad.block]? = wc.heap[ad.block]? := hg2.block ad.block (by have := HG1.out.size; simp at this; show ad.block < wc.heap.size; omega) (fun e => by
          rcases HA1.out ad.block e.symm with h3 | h3
          · exact HN.out ad had h3
          · simp at h3; omega)
        have h3 : w2.cell? (ad.add j) = wc.cell? (ad.add j) := World.cell?_of_block (by rw [block_of_add]; exact h2)
        exact h3.trans ((HLow.out ad had hlt j).trans (hcell j u hu))⟩
      have h2 := h1.cut (k := cs.length) (cap := ck) hml hck
      simpa using h2)
    have HBx2 : Hid (∀ w2, wc.drew.grownBy w2 (Value.slice A1 l1.length c1).ownBlock → w2.cell? ⟨w.heap.size, 2, none⟩ = some (.slice Ak k.length ck)) := Lib.hid (fun w2 hg2 => by
      have h2 : w2.heap[w.heap.size]? = wc.heap[w.heap.size]? := hg2.block w.heap.size (by have := HG1.out.size; simp at this; show w.heap.size < wc.heap.size; omega) (fun e => by
        rcases HA1.out _ e.symm with h3 | h3
        · have := HOlt.out _ h3; omega
        · simp at h3; omega)
      exact (World.cell?_of_block (a := ⟨w.heap.size, 2, none⟩) h2).trans b2)
    have HEnd : Hid (∀ w2 v3 w3, wc.drew.grownBy w2 (Value.slice A1 l1.length c1).ownBlock → w3.ownsRow 0 5 1 v3 (l1.length + (k.length - cs.length)) (splice (bv l1) n cs ++ (bv k).drop cs.length) → w2.grownBy w3 (Value.slice A1 l1.length c1).ownBlock → (v3.ownBlock = (Value.slice A1 l1.length c1).ownBlock ∨ v3.ownBlock = some w2.heap.size) → OnAt (.slice A l.length c) (layB l n k) w (.returned v3) w3) := Lib.hid (fun w2 v3 w3 hg2 ho3 hg3 hat3 => by
      have hlay := lay_splice l k n l1 HL.out
      have hlist : splice (bv l1) n cs ++ (bv k).drop cs.length = bv (layB l n k) := by
        rw [← hlay, bv_append, bv_splice, ← HCs.out, bv_drop]
        congr 1
        by_cases hm : k.length ≤ l1.length - n
        · rw [List.drop_of_length_le (by rw [bv_length]; have := HCl.out; omega), List.drop_of_length_le (by rw [bv_length]; exact hm)]
        · rw [HCl.out, Nat.min_eq_right (by omega)]
      have hlen : l1.length + (k.length - cs.length) = (layB l n k).length := by
        have := congrArg List.length hlist
        rw [List.length_append, bv_length, List.length_drop, bv_length, length_splice _ _ _ (by rw [bv_length]; exact hmn), bv_length] at this
        exact this
      rw [hlist, hlen] at ho3
      have hrow : ∀ j, (Value.slice A1 l1.length c1).ownBlock = some j → w.heap.size ≤ j ∨ (Value.slice A l.length c).ownBlock = some j := fun j hj => by
        rcases HA1.out j hj with h | h
        · exact .inr h
        · simp at h; exact .inl (by omega)
      have hgA : w.grownBy wc.drew (Value.slice A l.length c).ownBlock := (only_drew ((World.grownBy_alloc w _ _).andThen HG1.out fun j hj => .inr hj))
      have hgB := hgA.andThen hg2 hrow
      have hgC := hgB.andThen hg3 hrow
      refine ⟨v3, rfl, ho3, hgC, fun j hj => ?_⟩
      rcases hat3 with h | h
      · rw [h] at hj
        exact (hrow j hj).symm
      · rw [h] at hj
        injection hj with hj
        have := hgB.size
        exact .inr (by omega))
    clear hown1 hg1 hat1 hcs hcl hbox hlow hcs1
    go_wp2_with fail
    go_region_law (first | (refine step_copy_row _ rfl (.tmp 30) (.tmp 32) 41 41 rfl 5 Try.underlying41 u8size _ _ _ _ _ _ rfl rfl (.slice A1 l1.length c1) l1.length n (bv l1) cs HO1.out HCl.out HPos.out hmn HOne.out ?_; intro w2 hown2 hg2; have HO2 := Lib.hid hown2; have HG2 := Lib.hid hg2; have b22 := HBx2.out w2 hg2; clear hown2 hg2) | fail)
    all_goals
      go_wp2_with (at_builtin; refine wpList_append_any _ rfl (.tmp 34) (.tmp 38) 41 rfl 0 5 i0 (.int .u8 0) 1 1 Try.underlying41 hi0 hz0 hz1 hz2 rfl (by decide) (.slice A1 l1.length c1) l1.length _ rfl HO2.out w.heap.size _ _ _ _ rfl (HRd.out w2 HG2.out) (fun u hu => bv_one k u (List.mem_of_mem_drop hu)) (by unfold maxLen; omega) (by omega) (Nat.zero_le _) ?_; intro v3 w3 hown3 hg3 hat3)
      all_goals
        go_ret
        exact HEnd.out w2 v3 w3 HG2.out hown3 hg3 hat3
end Go.Proofs.Ytoihkanneiknkaa
