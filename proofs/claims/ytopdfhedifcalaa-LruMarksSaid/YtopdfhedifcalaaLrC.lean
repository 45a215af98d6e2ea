/- The landed list in memory, whole: the ring of items and the map of their places. Contracts of the landed find, Has, Use, Pin, Unpin, Mark, Drop over the abstract list. Conditions: those that each theorem names. -/
import Derived.Test.YtopdfhedifcalaaLrA
import Derived.Lib.Case
import Derived.IntWalk
namespace Go.Proofs.Ytopdfhedifcalaa
open Go.RowKit

def getG (l : List GI) (k : Int) : Option GI := l.find? fun x => x.key == k
def gOf (l : List GI) (k : Int) : Option Nat := (getG l k).map (·.g)
def ptrG (l : List GI) (k : Int) : Option Addr := (gOf l k).map fun g => ⟨g, 0, none⟩
theorem getG_some {l : List GI} {k : Int} {x : GI} (h : getG l k = some x) : x ∈ l ∧ x.key = k := ⟨List.mem_of_find?_eq_some h, by simpa using List.find?_some h⟩
theorem getG_none {l : List GI} {k : Int} (h : getG l k = none) : ∀ x ∈ l, x.key ≠ k := fun x hx e => by
  have := List.find?_eq_none.1 h x hx
  simp [e] at this
theorem getG_split {l : List GI} {k : Int} {x : GI} (h : getG l k = some x) : ∃ A B, l = A ++ x :: B ∧ x.key = k := by
  obtain ⟨h1, h2⟩ := getG_some h
  obtain ⟨A, B, e⟩ := List.append_of_mem h1
  exact ⟨A, B, e, h2⟩
theorem getG_of {l : List GI} (hn : (l.map (·.key)).Nodup) {x : GI} (hx : x ∈ l) : getG l x.key = some x := by
  induction l with
  | nil => cases hx
  | cons y l ih =>
    rw [List.map_cons, List.nodup_cons] at hn
    unfold getG
    rcases List.mem_cons.1 hx with rfl | hx
    · simp
    · have hne : ¬ (y.key == x.key) = true := fun e => hn.1 (by rw [beq_iff_eq.1 e]; exact List.mem_map.2 ⟨x, hx, rfl⟩)
      rw [List.find?_cons_of_neg (p := fun z : GI => z.key == x.key) hne]
      exact ih hn.2 hx
/-- The same items in another order, or with other marks, lie at the same places. -/
theorem gOf_perm {l m : List GI} (hl : (l.map (·.key)).Nodup) (hp : (m.map fun x => (x.key, x.g)).Perm (l.map fun x => (x.key, x.g))) (k : Int) : gOf m k = gOf l k := by
  have hm : (m.map (·.key)).Nodup := by
    have h1 : (m.map (·.key)).Perm (l.map (·.key)) := by
      have := hp.map Prod.fst
      simpa [List.map_map, Function.comp_def] using this
    exact h1.nodup_iff.2 hl
  have key : ∀ {a b : List GI}, (a.map (·.key)).Nodup → (b.map (·.key)).Nodup → (a.map fun x => (x.key, x.g)).Perm (b.map fun x => (x.key, x.g)) → ∀ g, gOf a k = some g → gOf b k = some g := by
    intro a b ha hb hab g hg
    unfold gOf at hg
    obtain ⟨x, hx, rfl⟩ := Option.map_eq_some_iff.1 hg
    obtain ⟨h1, rfl⟩ := getG_some hx
    have : (x.key, x.g) ∈ b.map fun x => (x.key, x.g) := hab.subset (List.mem_map.2 ⟨x, h1, rfl⟩)
    obtain ⟨y, hy, e⟩ := List.mem_map.1 this
    injection e with e1 e2
    unfold gOf
    rw [← e1, getG_of hb hy, ← e2]
    rfl
  cases h1 : gOf m k with
  | some g => exact (key hm hl hp g h1).symm
  | none =>
    cases h2 : gOf l k with
    | none => rfl
    | some g => rw [key hl hm hp.symm g h2] at h1; cases h1

/-- The map of the items' places. -/
structure MapM (w : World) (F : Nat → Prop) (mb : Nat) (D : DataW Unit) (l : List GI) : Prop where
  mf : F mb
  map : w.ownsMap Try.prog 3 ptrR mb (Maps.size D) D
  tidy : Maps.Tidy D
  sz : Maps.size D = l.length
  look : ∀ k z, D.atKey (.int .i64 k) z = match gOf l k with | some g => .lit (.int .i64 (g : Int)) | none => z
structure LM where
  cap : Nat
  mb : Nat
  D : DataW Unit
  fr : List GI
def LM.st (L : LM) : LU := ⟨L.cap, L.fr.map GI.it⟩
structure LruM (w : World) (F : Nat → Prop) (p : Nat) (L : LM) : Prop where
  ring : RingM w F p L.cap L.mb L.fr
  map : MapM w F L.mb L.D L.fr
  ok : L.st.Ok
  cap : L.cap ≤ 4096
/-- The landed list stands in block p, and is the abstract one. -/
def LruAt (w : World) (F : Nat → Prop) (p : Nat) (s : LU) : Prop := ∃ L : LM, L.st = s ∧ LruM w F p L
theorem st_keys (L : LM) : L.st.keys = L.fr.map (·.key) := by simp [LM.st, LU.keys, GI.it, Function.comp_def]
theorem st_len (L : LM) : L.st.items.length = L.fr.length := by simp [LM.st]
theorem keyI {k : Int} (hk : (Lit.int .i64 k).wf = true) : keyOf Try.prog 3 (.int .i64 k) = some (.int .i64 k) := Maps.keyOf_int_mk Try.underlying3 hk
theorem intKey : Maps.Keyed Try.prog 3 := Maps.int_keyed Try.underlying3
theorem zeroItem (w : World) : (zeroValue 53).run Try.prog w = .ok (.pointer none) w := by kernel_rfl

section
variable {w w' : World} {F G : Nat → Prop} {p mb : Nat} {L : LM} {l : List GI} {D : DataW Unit} {x : GI} {A B : List GI}
theorem MapM.off (h : MapM w F mb D l) (ho : Only G w w') (hn : ¬ G mb) : MapM w' F mb D l := ⟨h.mf, owns_only h.map ho hn, h.tidy, h.sz, h.look⟩
theorem MapM.mono (h : MapM w F mb D l) (hF : ∀ k, F k → G k) : MapM w G mb D l := ⟨hF _ h.mf, h.map, h.tidy, h.sz, h.look⟩
theorem MapM.congr (h : MapM w F mb D l) {m : List GI} (hl : (l.map (·.key)).Nodup) (hp : (m.map fun x => (x.key, x.g)).Perm (l.map fun x => (x.key, x.g))) : MapM w F mb D m :=
  ⟨h.mf, h.map, h.tidy, h.sz.trans (by simpa using hp.length_eq.symm), fun k z => by rw [gOf_perm hl hp]; exact h.look k z⟩
theorem MapM.has (h : MapM w F mb D l) (k : Int) : Maps.has D (.int .i64 k) = (gOf l k).isSome := by
  cases hg : gOf l k with
  | none => exact Maps.has_false_of_atKey fun z => by rw [h.look, hg]
  | some g => exact Maps.has_true_of_atKey fun z => by rw [h.look, hg]
theorem MapM.run (h : MapM w F mb D l) {k : Int} (hk : (Lit.int .i64 k).wf = true) : (Instr.lookup 52 (.map (some mb)) (.int .i64 k) false).run Try.prog w = .ok (.pointer (ptrG l k)) w := by
  obtain ⟨v, ps, hrun, hv⟩ := h.map.lookup intKey Try.underlying52 (zeroItem w) (zd := .nil) (zp := []) rfl (keyI hk)
  rw [hrun]
  rw [h.look] at hv
  have e : v = .pointer (ptrG l k) := by
    unfold ptrG
    cases hg : gOf l k with
    | none => rw [hg] at hv; exact ptrR_nil hv
    | some g => rw [hg] at hv; exact ptrR_at hv
  rw [e]
theorem MapM.len (h : MapM w F mb D l) (ty : TypeId) : (Builtin.len_ #[52] ty #[.map (some mb)]).run Try.prog w = .ok (.int .i64 (l.length : Int)) w := by
  rw [h.map.len Try.underlying52 ty, h.sz]
theorem MapM.drop (h : MapM w F mb D (A ++ x :: B)) (hn : ((A ++ x :: B).map (·.key)).Nodup) (ho : w'.ownsMap Try.prog 3 ptrR mb (Maps.size D) (D.del (.int .i64 x.key))) : MapM w' F mb (D.del (.int .i64 x.key)) (A ++ B) := by
  have hx : gOf (A ++ x :: B) x.key = some x.g := by unfold gOf; rw [getG_of hn (by simp)]; rfl
  refine ⟨h.mf, owns_size ho, h.tidy.del _, ?_, fun k z => ?_⟩
  · have := Maps.size_del h.tidy (k := .int .i64 x.key)
    rw [h.has, hx, h.sz] at this
    simp at this ⊢
    omega
  · by_cases e : k = x.key
    · subst e
      rw [Maps.atKey_del_same]
      have : gOf (A ++ B) x.key = none := by
        unfold gOf
        rw [Option.map_eq_none_iff]
        refine List.find?_eq_none.2 fun y hy => ?_
        rw [List.map_append, List.map_cons, List.nodup_append] at hn
        intro e
        have e := beq_iff_eq.1 e
        rcases List.mem_append.1 hy with hy | hy
        · exact hn.2.2 y.key (List.mem_map.2 ⟨y, hy, rfl⟩) x.key (by simp) e
        · exact (List.nodup_cons.1 hn.2.1).1 (e ▸ List.mem_map.2 ⟨y, hy, rfl⟩)
      rw [this]
    · rw [Maps.atKey_del_other (by intro c; injection c with c1 c2; exact e c2), h.look]
      have : gOf (A ++ B) k = gOf (A ++ x :: B) k := by
        unfold gOf getG
        rw [List.find?_append, List.find?_append, List.find?_cons_of_neg (by simpa using fun c => e (Eq.symm c))]
      rw [this]
theorem MapM.put (h : MapM w F mb D l) (hx : gOf l x.key = none) (ho : w'.ownsMap Try.prog 3 ptrR mb (Maps.size D + 1) (D.put (.int .i64 x.key) (.lit (.int .i64 (x.g : Int))))) : MapM w' F mb (D.put (.int .i64 x.key) (.lit (.int .i64 (x.g : Int)))) (l ++ [x]) := by
  have hkl : WideAt.IsKeyLit (.int .i64 x.key) := by exact trivial
  refine ⟨h.mf, owns_size ho, h.tidy.put hkl _, ?_, fun k z => ?_⟩
  · rw [Maps.size_put h.tidy, h.has, hx, h.sz]
    simp
  · by_cases e : k = x.key
    · subst e
      rw [Maps.atKey_put_same h.tidy.isMap hkl]
      have : gOf (l ++ [x]) x.key = some x.g := by
        unfold gOf getG at hx ⊢
        rw [Option.map_eq_none_iff] at hx
        rw [List.find?_append, hx]
        simp
      rw [this]
    · rw [Maps.atKey_put_other (by intro c; injection c with c1 c2; exact e c2), h.look]
      have : gOf (l ++ [x]) k = gOf l k := by
        unfold gOf getG
        rw [List.find?_append]
        have : [x].find? (fun x => x.key == k) = none := by
          rw [List.find?_cons_of_neg (by simpa using fun c => e (Eq.symm c))]
          rfl
        rw [this]
        cases List.find? (fun x => x.key == k) l <;> rfl
      rw [this]
theorem MapM.ne (h : MapM w F mb D l) {T : TypeId} {k : Nat} (hk : Kind w T k) : mb ≠ k := owns_ne h.map hk
theorem LruM.apart (h : LruM w F p L) : ∀ k, Nodes p L.fr k → L.mb ≠ k := fun k hk => by
  rcases hk with rfl | ⟨x, hx, rfl⟩
  · exact h.map.ne h.ring.kp
  · exact h.map.ne (h.ring.item x hx).kd
theorem LruM.keys (h : LruM w F p L) : (L.fr.map (·.key)).Nodup := by rw [← st_keys]; exact h.ok.nodup
theorem LruM.only (h : LruM w F p L) (ho : Only G w w') (hn : ∀ k, F k → ¬ G k) : LruM w' F p L :=
  ⟨h.ring.off ho fun k hk => hn k (h.ring.nodes hk), h.map.off ho (hn _ h.map.mf), h.ok, h.cap⟩
theorem LruM.mono (h : LruM w F p L) (hF : ∀ k, F k → G k) : LruM w G p L := ⟨h.ring.mono hF, h.map.mono hF, h.ok, h.cap⟩
theorem LruAt.only {s : LU} (h : LruAt w F p s) (ho : Only G w w') (hn : ∀ k, F k → ¬ G k) : LruAt w' F p s := by
  obtain ⟨L, e, hL⟩ := h
  exact ⟨L, e, hL.only ho hn⟩
theorem LruAt.mono {s : LU} (h : LruAt w F p s) (hF : ∀ k, F k → G k) : LruAt w G p s := by
  obtain ⟨L, e, hL⟩ := h
  exact ⟨L, e, hL.mono hF⟩
theorem LruAt.below {s : LU} (h : LruAt w F p s) (hb : Below w.heap.size w w') : LruAt w' F p s := h.only (Only.of_below (F := fun _ => False) hb) fun _ _ => id

/-! ### The abstract list at an item -/
theorem st_split (hL : L.fr = A ++ x :: B) : L.st = ⟨L.cap, A.map GI.it ++ x.it :: B.map GI.it⟩ := by simp [LM.st, hL]
theorem at_split (hL : L.fr = A ++ x :: B) : ∃ hi : A.length < L.st.items.length, L.st.items[A.length] = x.it ∧ L.st.items.eraseIdx A.length = (A ++ B).map GI.it ∧ ∀ y, L.st.items.set A.length y = A.map GI.it ++ y :: B.map GI.it := by
  have e : L.st.items = A.map GI.it ++ x.it :: B.map GI.it := by rw [st_split hL]
  have hl : A.length = (A.map GI.it).length := by simp
  refine ⟨by rw [e]; simp, ?_, ?_, fun y => ?_⟩
  · simp [e]
  · rw [e, hl, List.eraseIdx_append_of_length_le (Nat.le_refl _)]
    simp
  · rw [e, hl, List.set_append_right _ _ (Nat.le_refl _)]
    simp
theorem has_st (L : LM) (k : Int) : L.st.has k = (getG L.fr k).isSome := by
  unfold LU.has LM.st getG
  rw [Bool.eq_iff_iff, List.find?_isSome, List.any_eq_true]
  simp only [List.mem_map]
  constructor
  · rintro ⟨_, ⟨x, hx, rfl⟩, e⟩
    exact ⟨x, hx, e⟩
  · rintro ⟨x, hx, e⟩
    exact ⟨_, ⟨x, hx, rfl⟩, e⟩
end
end Go.Proofs.Ytopdfhedifcalaa
