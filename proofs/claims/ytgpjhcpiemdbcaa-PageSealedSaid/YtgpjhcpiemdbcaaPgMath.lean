/- Plain facts on a page of 256 bytes: its form, its sum, and what is opened of it. No conditions but those that each theorem names. -/
import Derived.Test.YtgpjhcpiemdbcaaCrcMath
import Derived.Test.YtgpjhcpiemdbcaaLeM
import Derived.Laws.CopyOwn
namespace Go.Proofs.Ytgpjhcpiemdbcaa

/-- A page without its sum. -/
def laidL (no kind : Nat) (body : List UInt8) : List UInt8 := digs kind 1 ++ [0] ++ digs body.length 2 ++ digs no 4 ++ [0, 0, 0, 0] ++ body ++ List.replicate (244 - body.length) 0
/-- All bytes but the sum. -/
def bare (l : List UInt8) : List UInt8 := l.take 8 ++ l.drop 12
def pgSum (l : List UInt8) : Nat := sumOf (bare l)
/-- A page with its sum. -/
def pgBytes (no kind : Nat) (body : List UInt8) : List UInt8 := splice (laidL no kind body) 8 (digs (pgSum (laidL no kind body)) 4)
def pgNo (no : Int) : Prop := 0 ≤ no ∧ no < 1048576
instance (no : Int) : Decidable (pgNo no) := by unfold pgNo; infer_instance
def pgKind (k : Int) : Prop := 1 ≤ k ∧ k ≤ 9
instance (k : Int) : Decidable (pgKind k) := by unfold pgKind; infer_instance
def mPack (no kind : Int) (body : List UInt8) : List UInt8 × Nat :=
  if ¬ pgNo no ∨ ¬ pgKind kind then ([], 1) else if 244 < body.length then ([], 10) else (pgBytes no.toNat kind.toNat body, 0)
/-- The seg of a page that stands from a on. -/
def seg (l : List UInt8) (a n : Nat) : List UInt8 := (l.drop a).take n
def pgKindOf (l : List UInt8) : Nat := num (seg l 0 1)
def pgLen (l : List UInt8) : Nat := num (seg l 2 2)
def pgBody (l : List UInt8) : List UInt8 := seg l 12 (pgLen l)
def mOpen (no : Int) (l : List UInt8) : Int × List UInt8 × Nat :=
  if ¬ pgNo no then (0, [], 1) else if l.length ≠ 256 then (0, [], 3) else if num (seg l 8 4) ≠ pgSum l then (0, [], 5)
  else if ¬ pgKind (pgKindOf l) ∨ 244 < pgLen l then (0, [], 4)
  else if pgBytes no.toNat (pgKindOf l) (pgBody l) ≠ l then (0, [], 4) else ((pgKindOf l : Nat), pgBody l, 0)

theorem seg_length (l : List UInt8) (a n : Nat) (h : a + n ≤ l.length) : (seg l a n).length = n := by
  unfold seg; rw [List.length_take, List.length_drop]; omega
theorem splice_at {α : Type} (a b c cs : List α) (off : Nat) (h : b.length = cs.length) (ho : a.length = off) : splice (a ++ b ++ c) off cs = a ++ cs ++ c := by
  subst ho
  unfold splice
  rw [List.append_assoc, List.append_assoc, List.take_left, ← h, List.drop_append, List.drop_eq_nil_of_le (as := a) (by omega), Nat.add_sub_cancel_left, List.drop_left, List.nil_append]
theorem bv_splice (l : List UInt8) (off : Nat) (cs : List UInt8) : splice (bv l) off (bv cs) = bv (splice l off cs) := by
  unfold splice
  rw [bv_length, bv_append, bv_append]
  simp only [bv, List.map_take, List.map_drop]
theorem laidL_length (no kind : Nat) (body : List UInt8) (h : body.length ≤ 244) : (laidL no kind body).length = 256 := by
  simp only [laidL, List.length_append, digs_length, List.length_replicate, List.length_cons, List.length_nil]
  omega
theorem rep_split (n m : Nat) (x : UInt8) : List.replicate (n + m) x = List.replicate n x ++ List.replicate m x := by rw [List.replicate_append_replicate]
/-- What is laid, step by step, on bytes 0. -/
theorem laid_steps (no kind : Nat) (body : List UInt8) (h : body.length ≤ 244) :
    splice (splice (splice (splice (List.replicate 256 (0 : UInt8)) 0 (digs kind 1)) 2 (digs body.length 2)) 4 (digs no 4)) 12 body = laidL no kind body := by
  have e0 : List.replicate 256 (0 : UInt8) = [] ++ List.replicate 1 0 ++ (List.replicate 1 0 ++ (List.replicate 2 0 ++ (List.replicate 4 0 ++ (List.replicate 4 0 ++ (List.replicate body.length 0 ++ List.replicate (244 - body.length) 0))))) := by
    simp only [List.replicate_append_replicate, List.nil_append]
    congr 1
    omega
  rw [e0, splice_at _ _ _ _ 0 (by simp [digs_length]) rfl]
  have e1 : [] ++ digs kind 1 ++ (List.replicate 1 (0 : UInt8) ++ (List.replicate 2 0 ++ (List.replicate 4 0 ++ (List.replicate 4 0 ++ (List.replicate body.length 0 ++ List.replicate (244 - body.length) 0))))) =
      (digs kind 1 ++ [0]) ++ List.replicate 2 0 ++ (List.replicate 4 0 ++ (List.replicate 4 0 ++ (List.replicate body.length 0 ++ List.replicate (244 - body.length) 0))) := by simp
  rw [e1, splice_at _ _ _ _ 2 (by simp [digs_length]) (by simp [digs_length])]
  have e2 : (digs kind 1 ++ [0]) ++ digs body.length 2 ++ (List.replicate 4 (0 : UInt8) ++ (List.replicate 4 0 ++ (List.replicate body.length 0 ++ List.replicate (244 - body.length) 0))) =
      (digs kind 1 ++ [0] ++ digs body.length 2) ++ List.replicate 4 0 ++ (List.replicate 4 0 ++ (List.replicate body.length 0 ++ List.replicate (244 - body.length) 0)) := by simp
  rw [e2, splice_at _ _ _ _ 4 (by simp [digs_length]) (by simp [digs_length])]
  have e3 : (digs kind 1 ++ [0] ++ digs body.length 2) ++ digs no 4 ++ (List.replicate 4 (0 : UInt8) ++ (List.replicate body.length 0 ++ List.replicate (244 - body.length) 0)) =
      (digs kind 1 ++ [0] ++ digs body.length 2 ++ digs no 4 ++ [0, 0, 0, 0]) ++ List.replicate body.length 0 ++ List.replicate (244 - body.length) 0 := by simp
  rw [e3, splice_at _ _ _ _ 12 (by simp) (by simp [digs_length])]
  rfl
theorem splice_length {α : Type} (l : List α) (off : Nat) (cs : List α) (h : off + cs.length ≤ l.length) : (splice l off cs).length = l.length := length_splice l off cs h
theorem pgBytes_length (no kind : Nat) (body : List UInt8) (h : body.length ≤ 244) : (pgBytes no kind body).length = 256 := by
  unfold pgBytes
  rw [splice_length _ _ _ (by rw [digs_length, laidL_length _ _ _ h]; omega), laidL_length _ _ _ h]
theorem bare_splice (l cs : List UInt8) (h : l.length = 256) (hc : cs.length = 4) : bare (splice l 8 cs) = bare l := by
  unfold bare splice
  have h8 : (l.take 8).length = 8 := by rw [List.length_take]; omega
  rw [hc]
  rw [List.take_append_of_le_length (by omega), List.take_take, Nat.min_self]
  congr 1
  rw [List.drop_append, List.drop_eq_nil_of_le (by omega), List.nil_append, h8, List.drop_append, List.drop_eq_nil_of_le (by omega), List.nil_append, hc]
  simp
theorem seg_splice (l cs : List UInt8) (h : l.length = 256) (hc : cs.length = 4) : seg (splice l 8 cs) 8 4 = cs := by
  unfold seg splice
  have h8 : (l.take 8).length = 8 := by rw [List.length_take]; omega
  conv => lhs; arg 2; arg 1; rw [← h8]
  rw [List.drop_left, ← hc, List.take_left]
theorem pgSum_lt (l : List UInt8) : pgSum l < 4294967296 := sumOf_lt _
theorem splice_back (l : List UInt8) (h : l.length = 256) : splice l 8 (seg l 8 4) = l := by
  unfold splice
  rw [seg_length l 8 4 (by omega)]
  unfold seg
  have : l.drop (8 + 4) = (l.drop 8).drop 4 := by rw [List.drop_drop]
  rw [this, List.take_append_drop, List.take_append_drop]
theorem bare_inj {l m : List UInt8} (hl : l.length = 256) (hm : m.length = 256) (h : bare l = bare m) (h8 : seg l 8 4 = seg m 8 4) : l = m := by
  unfold bare at h
  have h1 : l.take 8 = m.take 8 := List.append_inj_left h (by rw [List.length_take, List.length_take]; omega)
  have h2 : l.drop 12 = m.drop 12 := List.append_inj_right h (by rw [List.length_take, List.length_take]; omega)
  rw [← splice_back l hl, ← splice_back m hm, h8]
  unfold splice
  rw [seg_length m 8 4 (by omega), h1, h2]
/-- With its sum right, a page that is laid again with the sum that stands is the page that would be packed. -/
theorem again_iff (no kind : Nat) (body l : List UInt8) (h : body.length ≤ 244) (hl : l.length = 256) (hs : num (seg l 8 4) = pgSum l) :
    splice (laidL no kind body) 8 (digs (pgSum l) 4) = l ↔ pgBytes no kind body = l := by
  have hL := laidL_length no kind body h
  have hp : digs (pgSum l) 4 = seg l 8 4 := by
    have := digs_num (seg l 8 4)
    rw [seg_length l 8 4 (by omega), hs] at this
    exact this
  constructor
  · intro e
    have h1 : bare (laidL no kind body) = bare l := by rw [← e, bare_splice _ _ hL (digs_length _ _)]
    unfold pgBytes
    have h2 : pgSum (laidL no kind body) = pgSum l := by unfold pgSum; rw [h1]
    rw [h2]
    exact e
  · intro e
    have h1 : bare (laidL no kind body) = bare l := by rw [← e]; unfold pgBytes; rw [bare_splice _ _ hL (digs_length _ _)]
    have h2 : pgSum (laidL no kind body) = pgSum l := by unfold pgSum; rw [h1]
    unfold pgBytes at e
    rw [h2] at e
    exact e
/-! What is packed is opened as it was. -/
theorem seg_at (a b c : List UInt8) (p n : Nat) (hp : a.length = p) (hn : b.length = n) : seg (a ++ b ++ c) p n = b := by
  subst hp hn
  unfold seg
  rw [List.append_assoc, List.drop_left, List.take_left]
theorem num_digs_lt (n k : Nat) (h : n < 256 ^ k) : num (digs n k) = n := by rw [num_digs, Nat.mod_eq_of_lt h]
section
variable (no kind : Nat) (body : List UInt8)
theorem pgBytes_form (_h : body.length ≤ 244) : pgBytes no kind body = digs kind 1 ++ [0] ++ digs body.length 2 ++ digs no 4 ++ digs (pgSum (laidL no kind body)) 4 ++ body ++ List.replicate (244 - body.length) 0 := by
  unfold pgBytes
  generalize pgSum (laidL no kind body) = s
  have e : laidL no kind body = (digs kind 1 ++ [0] ++ digs body.length 2 ++ digs no 4) ++ [0, 0, 0, 0] ++ (body ++ List.replicate (244 - body.length) 0) := by simp [laidL]
  rw [e, splice_at _ _ _ _ 8 (by simp [digs_length]) (by simp [digs_length])]
  simp
theorem pgBytes_kind (h : body.length ≤ 244) (hk : kind < 256) : pgKindOf (pgBytes no kind body) = kind := by
  rw [pgBytes_form no kind body h]
  unfold pgKindOf
  have e : seg (digs kind 1 ++ [0] ++ digs body.length 2 ++ digs no 4 ++ digs (pgSum (laidL no kind body)) 4 ++ body ++ List.replicate (244 - body.length) 0) 0 1 = digs kind 1 := by
    have := seg_at [] (digs kind 1) ([0] ++ digs body.length 2 ++ digs no 4 ++ digs (pgSum (laidL no kind body)) 4 ++ body ++ List.replicate (244 - body.length) 0) 0 1 rfl (digs_length _ _)
    simpa using this
  rw [e, num_digs_lt _ _ (by omega)]
theorem pgBytes_len (h : body.length ≤ 244) : pgLen (pgBytes no kind body) = body.length := by
  rw [pgBytes_form no kind body h]
  unfold pgLen
  have e : seg (digs kind 1 ++ [0] ++ digs body.length 2 ++ digs no 4 ++ digs (pgSum (laidL no kind body)) 4 ++ body ++ List.replicate (244 - body.length) 0) 2 2 = digs body.length 2 := by
    have := seg_at (digs kind 1 ++ [0]) (digs body.length 2) (digs no 4 ++ digs (pgSum (laidL no kind body)) 4 ++ body ++ List.replicate (244 - body.length) 0) 2 2 (by simp [digs_length]) (digs_length _ _)
    simpa using this
  rw [e, num_digs_lt _ _ (by omega)]
theorem pgBytes_no (h : body.length ≤ 244) (hn : no < 4294967296) : num (seg (pgBytes no kind body) 4 4) = no := by
  rw [pgBytes_form no kind body h]
  have e : seg (digs kind 1 ++ [0] ++ digs body.length 2 ++ digs no 4 ++ digs (pgSum (laidL no kind body)) 4 ++ body ++ List.replicate (244 - body.length) 0) 4 4 = digs no 4 := by
    have := seg_at (digs kind 1 ++ [0] ++ digs body.length 2) (digs no 4) (digs (pgSum (laidL no kind body)) 4 ++ body ++ List.replicate (244 - body.length) 0) 4 4 (by simp [digs_length]) (digs_length _ _)
    simpa using this
  rw [e, num_digs_lt _ _ (by omega)]
theorem pgBytes_sum (h : body.length ≤ 244) : num (seg (pgBytes no kind body) 8 4) = pgSum (pgBytes no kind body) := by
  unfold pgBytes
  rw [seg_splice _ _ (laidL_length _ _ _ h) (digs_length _ _), num_digs_lt _ _ (by have := pgSum_lt (laidL no kind body); omega)]
  unfold pgSum
  rw [bare_splice _ _ (laidL_length _ _ _ h) (digs_length _ _)]
theorem pgBytes_body (h : body.length ≤ 244) : pgBody (pgBytes no kind body) = body := by
  unfold pgBody
  rw [pgBytes_len no kind body h, pgBytes_form no kind body h]
  have := seg_at (digs kind 1 ++ [0] ++ digs body.length 2 ++ digs no 4 ++ digs (pgSum (laidL no kind body)) 4) body (List.replicate (244 - body.length) 0) 12 body.length (by simp [digs_length]) rfl
  simpa using this
end
theorem open_packed (no kind : Int) (body : List UInt8) (hn : pgNo no) (hk : pgKind kind) (h : body.length ≤ 244) : mOpen no (pgBytes no.toNat kind.toNat body) = (kind, body, 0) := by
  have hk2 : ((kind.toNat : Nat) : Int) = kind := by have := hk.1; omega
  have hk3 : kind.toNat < 256 := by have := hk.2; omega
  unfold mOpen
  rw [if_neg (by simpa using hn), if_neg (by rw [pgBytes_length _ _ _ h]; simp), if_neg (by rw [pgBytes_sum _ _ _ h]; simp), pgBytes_kind _ _ _ h hk3, pgBytes_len _ _ _ h, pgBytes_body _ _ _ h, if_neg (by rw [hk2]; simp [hk]; omega), if_neg (by simp), hk2]
/-- A page is no other one's. -/
theorem open_other (no other kind : Nat) (body : List UInt8) (h : body.length ≤ 244) (hn : no < 1048576) (ho : other < 1048576) (hne : other ≠ no) (hk : kind < 256) :
    pgBytes other (pgKindOf (pgBytes no kind body)) (pgBody (pgBytes no kind body)) ≠ pgBytes no kind body := by
  rw [pgBytes_kind _ _ _ h hk, pgBytes_body _ _ _ h]
  intro e
  have h1 := pgBytes_no no kind body h (by omega)
  rw [← e, pgBytes_no other kind body h (by omega)] at h1
  exact hne h1
theorem mOpen_zero {no : Int} {l : List UInt8} (h : (mOpen no l).2.2 ≠ 0) : (mOpen no l).1 = 0 ∧ (mOpen no l).2.1 = [] := by
  unfold mOpen at *
  split
  · exact ⟨rfl, rfl⟩
  split
  · exact ⟨rfl, rfl⟩
  split
  · exact ⟨rfl, rfl⟩
  split
  · exact ⟨rfl, rfl⟩
  split
  · exact ⟨rfl, rfl⟩
  · rename_i h1 h2 h3 h4 h5
    rw [if_neg h1, if_neg h2, if_neg h3, if_neg h4, if_neg h5] at h
    exact absurd rfl h
/-- What is opened is packed as it was. -/
theorem mOpen_ok {no : Int} {l : List UInt8} (h : (mOpen no l).2.2 = 0) : pgNo no ∧ l.length = 256 ∧ num (seg l 8 4) = pgSum l ∧ pgKind (pgKindOf l) ∧ pgLen l ≤ 244 ∧ pgBytes no.toNat (pgKindOf l) (pgBody l) = l ∧ mOpen no l = (((pgKindOf l : Nat) : Int), pgBody l, 0) := by
  unfold mOpen at *
  by_cases h1 : ¬ pgNo no
  · rw [if_pos h1] at h; cases h
  rw [if_neg h1] at h ⊢
  by_cases h2 : l.length ≠ 256
  · rw [if_pos h2] at h; cases h
  rw [if_neg h2] at h ⊢
  by_cases h3 : num (seg l 8 4) ≠ pgSum l
  · rw [if_pos h3] at h; cases h
  rw [if_neg h3] at h ⊢
  by_cases h4 : ¬ pgKind (pgKindOf l) ∨ 244 < pgLen l
  · rw [if_pos h4] at h; cases h
  rw [if_neg h4] at h ⊢
  by_cases h5 : pgBytes no.toNat (pgKindOf l) (pgBody l) ≠ l
  · rw [if_pos h5] at h; cases h
  rw [if_neg h5]
  rw [not_or] at h4
  exact ⟨Decidable.not_not.1 h1, Decidable.not_not.1 h2, Decidable.not_not.1 h3, Decidable.not_not.1 h4.1, by omega, Decidable.not_not.1 h5, rfl⟩
theorem pgBody_length {l : List UInt8} (hl : l.length = 256) (h : pgLen l ≤ 244) : (pgBody l).length = pgLen l := seg_length l 12 _ (by omega)
end Go.Proofs.Ytgpjhcpiemdbcaa
