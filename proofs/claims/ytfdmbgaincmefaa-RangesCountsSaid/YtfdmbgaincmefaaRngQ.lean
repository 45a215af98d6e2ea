/- Contract of ranges.parted: the numbers of a that are in b, and those that aren't, as right lists in new memory. Conditions: both are right lists, in memory as named, and short. -/
import Derived.Test.YtfdmbgaincmefaaRngP
import Derived.Deep.LoopGhost
import Derived.BigQuiet
import Derived.Deep.QuietTactic
namespace Go.Proofs.Ytfdmbgaincmefaa
open Go.RowKit

theorem app_first {ops : Array Oper} {rest : List Oper} {o : Oper} {a : Act} {Q : Exit → Act → World → Prop} {w0 W : World} {base G gW : Nat} {u v : Value} {L M : List Rg} {f t : Int} (hgd : o.guard = none) (s x : Operand)
    (ho : o.op = .call { callee := .builtin .append, args := #[s, x], argTypes := #[22, 22] }) (p q : Int) (h : Rows2B w0 W base u L v M G f t) (hl : L.length ≤ 4000000)
    (hs : a.eval s = u) (hx : a.eval x = .slice (some ⟨gW, 0, none⟩) 1 1) (hW : W.heap.size = gW)
    (k : ∀ u' w', Rows2B w0 w' base u' (L ++ [(p, q)]) v M G f t → (∀ g' cs', Blk W g' 30 cs' → u.ownBlock ≠ some g' → Blk w' g' 30 cs') → wpList Try.prog ops Q rest (a.put o.dst u') w') :
    wpList Try.prog ops Q (o :: rest) a (W.alloc (.cells #[.int .i64 p, .int .i64 q] 30)) := by
  obtain ⟨i0, hi0, hz0, hz1, hz2⟩ := info_parts rginfo
  subst hW
  have h1 := h.alloc (.cells #[.int .i64 p, .int .i64 q] 30)
  exact wpList_append_any _ hgd s x 22 ho base 30 i0 (.agg #[.int .i64 0, .int .i64 0]) 2 16 Try.underlying22 hi0 hz0 hz1 hz2 rfl (by decide) u L.length _ hs h1.ou (W.heap.size + 1) (some ⟨W.heap.size, 0, none⟩) 1 1 [.int .i64 p, .int .i64 q] hx (reads_rg1 W 30 p q) (one_two p q)
    (by unfold maxLen; omega) (by omega) h1.bs fun u' w' ho' hg hat => k u' w' (h1.first (p, q) ho' hg hat) fun g' cs' hb hne => (hb.alloc _).grown hg fun e => hne e.symm
theorem app_second {ops : Array Oper} {rest : List Oper} {o : Oper} {a : Act} {Q : Exit → Act → World → Prop} {w0 W : World} {base G gW : Nat} {u v : Value} {L M : List Rg} {f t : Int} (hgd : o.guard = none) (s x : Operand)
    (ho : o.op = .call { callee := .builtin .append, args := #[s, x], argTypes := #[22, 22] }) (p q : Int) (h : Rows2B w0 W base u L v M G f t) (hl : M.length ≤ 4000000)
    (hs : a.eval s = v) (hx : a.eval x = .slice (some ⟨gW, 0, none⟩) 1 1) (hW : W.heap.size = gW)
    (k : ∀ v' w', Rows2B w0 w' base u L v' (M ++ [(p, q)]) G f t → (∀ g' cs', Blk W g' 30 cs' → v.ownBlock ≠ some g' → Blk w' g' 30 cs') → wpList Try.prog ops Q rest (a.put o.dst v') w') :
    wpList Try.prog ops Q (o :: rest) a (W.alloc (.cells #[.int .i64 p, .int .i64 q] 30)) := by
  obtain ⟨i0, hi0, hz0, hz1, hz2⟩ := info_parts rginfo
  subst hW
  have h1 := h.alloc (.cells #[.int .i64 p, .int .i64 q] 30)
  exact wpList_append_any _ hgd s x 22 ho base 30 i0 (.agg #[.int .i64 0, .int .i64 0]) 2 16 Try.underlying22 hi0 hz0 hz1 hz2 rfl (by decide) v M.length _ hs h1.ov (W.heap.size + 1) (some ⟨W.heap.size, 0, none⟩) 1 1 [.int .i64 p, .int .i64 q] hx (reads_rg1 W 30 p q) (one_two p q)
    (by unfold maxLen; omega) (by omega) h1.bs fun u' w' ho' hg hat => k u' w' (h1.second (p, q) ho' hg hat) fun g' cs' hb hne => (hb.alloc _).grown hg fun e => hne e.symm

/-- What parted answers. -/
def PartEnd (w : World) (a b : List Rg) (e : Ending) (w' : World) : Prop :=
  ∃ u v L M, e = .returned (.tuple #[u, v]) ∧ Rows2 w w' w.heap.size u L v M ∧ Canon L (fun n => memR a n ∧ memR b n) ∧ Canon M (fun n => memR a n ∧ ¬ memR b n)

set_option maxRecDepth 100000 in
set_option maxHeartbeats 4000000 in
theorem parted_any (a b : List Rg) (A A' : Option Addr) (c c' : Nat) (w : World) (ha : a.length ≤ 1000000) (hb : b.length ≤ 1000000) (hra : rightR a) (hrb : rightR b) (h : Reads w w.heap.size 2 A a.length (rgv a)) (h' : Reads w w.heap.size 2 A' b.length (rgv b)) :
    Calls Try.prog 30 #[.slice A a.length c, .slice A' b.length c'] w fun e w' => PartEnd w a b e w' := by
  have HRa := Lib.hid hra
  have HRb := Lib.hid hrb
  have HA := Lib.hid h
  have HB := Lib.hid h'
  clear hra hrb h h'
  go_enter Try.func30, Try.ntmps30
  go_wp2
  go_step3
  go_wp2
  go_step3
  go_wp2
  go_loopg [4, 5, 6, 12] a.length (fun g u v nx i wr => ∃ (k n : Nat) (L M : List Rg) (f : Int), k + g = a.length ∧ i = .int .i64 k ∧ nx = .int .i64 n ∧ n ≤ b.length ∧ Hid (PartBy a b L M k n f) ∧ Hid (Rows2 w wr w.heap.size u L v M) ∧ L.length ≤ k + n ∧ M.length ≤ k + n)
  case atStart => exact ⟨0, 0, [], [], -1, by omega, rfl, rfl, Nat.zero_le _, Lib.hid ⟨part_start a b, fun j hj => ⟨fun h => by omega, fun _ => by have := right_pos HRa.out _ (List.getElem_mem hj); omega⟩⟩, Lib.hid (rows2_nil w), Nat.le_refl _, Nat.le_refl _⟩
  case round =>
    obtain ⟨k, n, L, M, f, hkg, rfl, rfl, hn, HP, HR, hL, hM⟩ := hrel
    cases gk with
    | zero =>
      have hi : ¬ (k : Int) < (a.length : Int) := by omega
      have HD := Lib.hid (part_done HP.out (by omega))
      clear HP
      go_wp2_with fail
      go_ret2
      exact ⟨u4, u5, L, M, rfl, HR.out, HD.out.1, HD.out.2⟩
    | succ g =>
      have hk : k < a.length := by omega
      have hi : (k : Int) < (a.length : Int) := by omega
      obtain ⟨ba, oa, rfl, hba, hca⟩ := (HA.out.below HR.out.be).rg (by omega)
      obtain ⟨x1, x2⟩ := hca k hk
      clear hca
      have HI := Lib.hid (part_begin HRa.out HP.out hk)
      clear HP
      generalize a[k].1 = f0 at *
      generalize a[k].2 = t at *
      obtain ⟨wo, rfl⟩ : ∃ wo : World, wo = wr := ⟨_, rfl⟩
      have HB0 := Lib.hid (HR.out.block f0 t)
      clear HR
      have hgo : wo.heap.size < (wo.alloc (.cells #[.int .i64 f0, .int .i64 t] 30)).heap.size := by simp
      go_wp2_with fail
      generalize hG : wo.heap.size = G at *
      generalize hwG : wo.alloc (.cells #[.int .i64 f0, .int .i64 t] 30) = wG at *
      clear hG hwG x1 x2
      go_loopg [4, 5, 6] (b.length - n) (fun g u v nx wr => ∃ (n : Nat) (L M : List Rg) (f : Int), n + g = b.length ∧ nx = .int .i64 n ∧ Hid (PartIn a b L M k n f t) ∧ Hid (Rows2B w wr w.heap.size u L v M G f t) ∧ L.length ≤ k + n ∧ M.length ≤ k + n)
      case atStart => exact ⟨n, L, M, f0, by omega, rfl, HI, HB0, hL, hM⟩
      case round =>
        obtain ⟨n, L, M, f, hng, rfl, HI, HR, hL, hM⟩ := hrel
        obtain ⟨hc0, hc1⟩ := And.intro HR.out.c0 HR.out.c1
        cases gk with
        | zero =>
          obtain rfl : n = b.length := by omega
          have hnb : decide ((b.length : Int) < (b.length : Int)) = false := by simp
          have HE := Lib.hid (part_end HRa.out HRb.out HI.out (fun h => by omega))
          clear HI
          go_wp2_with fail
          go_quiet (fail)
          go_wp2_with (at_builtin; refine app_second rfl (.tmp 77) (.tmp 79) rfl f t (HR.out.drewN _) (by omega) rfl rfl (by simp) ?_; intro v' w2 hr2 _)
          go_roundg g
          case measure => omega
          case rel => exact ⟨k + 1, b.length, L, M ++ [(f, t)], t, by omega, by go_num, rfl, by omega, HE, Lib.hid hr2.toRows2, by omega, by simp; omega⟩
        | succ g2 =>
          have hn : n < b.length := by omega
          have hni : (n : Int) < (b.length : Int) := by omega
          have hnd : decide ((n : Int) < (b.length : Int)) = true := by simp [hni]
          obtain ⟨bb, ob, rfl, hbb, hcb⟩ := (HB.out.below HR.out.be).rg (by omega)
          obtain ⟨y1, y2⟩ := hcb n hn
          clear hcb
          obtain ⟨x, hx⟩ : ∃ x, b[n].1 = x := ⟨_, rfl⟩
          obtain ⟨y, hy⟩ : ∃ y, b[n].2 = y := ⟨_, rfl⟩
          rw [hx] at y1
          rw [hy] at y2
          have HX := Lib.hid hx
          have HY := Lib.hid hy
          clear hx hy
          by_cases hxt : x < t
          · by_cases hyf : y ≤ f
            · have HI' := Lib.hid (part_pass HRb.out HI.out hn (by rw [HY.out]; exact hyf))
              clear HI
              go_wp2_with fail
              go_quiet (fail)
              have HRq := Lib.hid (HR.out.drewN nq)
              replace y1 : (wr.drewN nq).cell? ⟨bb, ob + n * 2, none⟩ = some (.int .i64 x) := y1
              replace y2 : (wr.drewN nq).cell? ⟨bb, ob + n * 2 + 1, none⟩ = some (.int .i64 y) := y2
              replace hc0 : (wr.drewN nq).cell? ⟨G, 0, none⟩ = some (.int .i64 f) := hc0
              replace hc1 : (wr.drewN nq).cell? ⟨G, 1, none⟩ = some (.int .i64 t) := hc1
              clear HR
              generalize wr.drewN nq = wq at *
              have hgq : G < wq.heap.size := HRq.out.bk.lt
              go_wp2_with fail
              go_roundg g2
              case measure => omega
              case rel => exact ⟨n + 1, L, M, f, by omega, by go_num, HI', Lib.hid (HRq.out.alloc _), by omega, by omega⟩
            · have hyf' : f < y := by omega
              clear hyf
              by_cases hfx : f < x
              · have hT := part_out HRa.out HRb.out HI.out hn (by rw [HX.out]; exact hfx) (by rw [HX.out]; exact hxt)
                rw [HX.out] at hT
                have HT := Lib.hid hT
                clear hT HI
                by_cases hty : t ≤ y
                · have HE := Lib.hid (part_last HRa.out HT.out hn (by rw [HY.out]; exact hty))
                  clear HT
                  go_wp2_with fail
                  go_quiet (fail)
                  have HRq := Lib.hid (HR.out.drewN nq)
                  replace y1 : (wr.drewN nq).cell? ⟨bb, ob + n * 2, none⟩ = some (.int .i64 x) := y1
                  replace y2 : (wr.drewN nq).cell? ⟨bb, ob + n * 2 + 1, none⟩ = some (.int .i64 y) := y2
                  replace hc0 : (wr.drewN nq).cell? ⟨G, 0, none⟩ = some (.int .i64 f) := hc0
                  replace hc1 : (wr.drewN nq).cell? ⟨G, 1, none⟩ = some (.int .i64 t) := hc1
                  clear HR
                  generalize wr.drewN nq = wq at *
                  have hgq : G < wq.heap.size := HRq.out.bk.lt
                  have hgn : G ≠ wq.heap.size := by omega
                  have fz0 := HRq.out.bk.frozen 0
                  go_wp2_with (first | (at_builtin; refine app_second rfl (.tmp 46) (.tmp 52) rfl f x (HRq.out.alloc _) (by omega) rfl rfl (by simp) ?_; intro v' w2 hr2 hbk; have ho2 := hbk wq.heap.size #[.int .i64 x, .int .i64 y] (Blk.new wq _ _) (fun e => by have := own_lt HRq.out.ov e; omega); have o0 : w2.cell? ⟨wq.heap.size, 0, none⟩ = some (.int .i64 x) := (by rw [ho2.cell]; rfl); have o1 : w2.cell? ⟨wq.heap.size, 1, none⟩ = some (.int .i64 y) := (by rw [ho2.cell]; rfl); have c0 := hr2.c0; have c1 := hr2.c1; have fz := hr2.bk.frozen 0; have HR2 := Lib.hid hr2; have HO2 := Lib.hid ho2; clear hr2 hbk ho2) | (at_builtin; refine app_first rfl (.tmp 62) (.tmp 64) rfl x t (HR2.out.setF x) (by omega) rfl rfl (by simp) ?_; intro u' w3 hr3 _))
                  go_roundg g
                  case measure => omega
                  case rel => exact ⟨k + 1, n, L ++ [(x, t)], M ++ [(f, x)], t, by omega, by go_num, rfl, by omega, HE, Lib.hid hr3.toRows2, by simp; omega, by simp; omega⟩
                · have hty' : y < t := by omega
                  have hE := part_next HRa.out HRb.out HT.out hn (by rw [HY.out]; exact hty')
                  rw [HY.out] at hE
                  have HE := Lib.hid hE
                  clear hE HT
                  go_wp2_with fail
                  go_quiet (fail)
                  have HRq := Lib.hid (HR.out.drewN nq)
                  replace y1 : (wr.drewN nq).cell? ⟨bb, ob + n * 2, none⟩ = some (.int .i64 x) := y1
                  replace y2 : (wr.drewN nq).cell? ⟨bb, ob + n * 2 + 1, none⟩ = some (.int .i64 y) := y2
                  replace hc0 : (wr.drewN nq).cell? ⟨G, 0, none⟩ = some (.int .i64 f) := hc0
                  replace hc1 : (wr.drewN nq).cell? ⟨G, 1, none⟩ = some (.int .i64 t) := hc1
                  clear HR
                  generalize wr.drewN nq = wq at *
                  have hgq : G < wq.heap.size := HRq.out.bk.lt
                  have hgn : G ≠ wq.heap.size := by omega
                  have fz0 := HRq.out.bk.frozen 0
                  go_wp2_with (first | (at_builtin; refine app_second rfl (.tmp 46) (.tmp 52) rfl f x (HRq.out.alloc _) (by omega) rfl rfl (by simp) ?_; intro v' w2 hr2 hbk; have ho2 := hbk wq.heap.size #[.int .i64 x, .int .i64 y] (Blk.new wq _ _) (fun e => by have := own_lt HRq.out.ov e; omega); have o0 : w2.cell? ⟨wq.heap.size, 0, none⟩ = some (.int .i64 x) := (by rw [ho2.cell]; rfl); have o1 : w2.cell? ⟨wq.heap.size, 1, none⟩ = some (.int .i64 y) := (by rw [ho2.cell]; rfl); have c0 := hr2.c0; have c1 := hr2.c1; have fz := hr2.bk.frozen 0; have HR2 := Lib.hid hr2; have HO2 := Lib.hid ho2; clear hr2 hbk ho2) | (at_builtin; refine app_first rfl (.tmp 66) (.tmp 72) rfl x y (HR2.out.setF x) (by omega) rfl rfl (by simp) ?_; intro u' w3 hr3 hbk; have ho3 := hbk wq.heap.size #[.int .i64 x, .int .i64 y] (HO2.out.far (by show wq.heap.size ≠ G; omega) _) (fun e => by have := own_lt HRq.out.ou e; omega); have o2 : w3.cell? ⟨wq.heap.size, 0, none⟩ = some (.int .i64 x) := (by rw [ho3.cell]; rfl); have o3 : w3.cell? ⟨wq.heap.size, 1, none⟩ = some (.int .i64 y) := (by rw [ho3.cell]; rfl); have d0 := hr3.c0; have d1 := hr3.c1; have fz3 := hr3.bk.frozen 0; have HR3 := Lib.hid hr3; clear hr3 hbk ho3))
                  go_roundg g2
                  case measure => omega
                  case rel => exact ⟨n + 1, L ++ [(x, y)], M ++ [(f, x)], y, by omega, by go_num, HE, Lib.hid (HR3.out.setF y), by simp; omega, by simp; omega⟩
              · have hxf : x ≤ f := by omega
                have HT := Lib.hid (part_here HI.out hn (by rw [HX.out]; exact hxf) (by rw [HY.out]; exact hyf'))
                clear HI
                by_cases hty : t ≤ y
                · have HE := Lib.hid (part_last HRa.out HT.out hn (by rw [HY.out]; exact hty))
                  clear HT
                  go_wp2_with fail
                  go_quiet (fail)
                  have HRq := Lib.hid (HR.out.drewN nq)
                  replace y1 : (wr.drewN nq).cell? ⟨bb, ob + n * 2, none⟩ = some (.int .i64 x) := y1
                  replace y2 : (wr.drewN nq).cell? ⟨bb, ob + n * 2 + 1, none⟩ = some (.int .i64 y) := y2
                  replace hc0 : (wr.drewN nq).cell? ⟨G, 0, none⟩ = some (.int .i64 f) := hc0
                  replace hc1 : (wr.drewN nq).cell? ⟨G, 1, none⟩ = some (.int .i64 t) := hc1
                  clear HR
                  generalize wr.drewN nq = wq at *
                  have hgq : G < wq.heap.size := HRq.out.bk.lt
                  have hgn : G ≠ wq.heap.size := by omega
                  have fz0 := HRq.out.bk.frozen 0
                  go_wp2_with (at_builtin; refine app_first rfl (.tmp 62) (.tmp 64) rfl f t (HRq.out.alloc _) (by omega) rfl rfl (by simp) ?_; intro u' w3 hr3 _)
                  go_roundg g
                  case measure => omega
                  case rel => exact ⟨k + 1, n, L ++ [(f, t)], M, t, by omega, by go_num, rfl, by omega, HE, Lib.hid hr3.toRows2, by simp; omega, by omega⟩
                · have hty' : y < t := by omega
                  have hE := part_next HRa.out HRb.out HT.out hn (by rw [HY.out]; exact hty')
                  rw [HY.out] at hE
                  have HE := Lib.hid hE
                  clear hE HT
                  go_wp2_with fail
                  go_quiet (fail)
                  have HRq := Lib.hid (HR.out.drewN nq)
                  replace y1 : (wr.drewN nq).cell? ⟨bb, ob + n * 2, none⟩ = some (.int .i64 x) := y1
                  replace y2 : (wr.drewN nq).cell? ⟨bb, ob + n * 2 + 1, none⟩ = some (.int .i64 y) := y2
                  replace hc0 : (wr.drewN nq).cell? ⟨G, 0, none⟩ = some (.int .i64 f) := hc0
                  replace hc1 : (wr.drewN nq).cell? ⟨G, 1, none⟩ = some (.int .i64 t) := hc1
                  clear HR
                  generalize wr.drewN nq = wq at *
                  have hgq : G < wq.heap.size := HRq.out.bk.lt
                  have hgn : G ≠ wq.heap.size := by omega
                  have fz0 := HRq.out.bk.frozen 0
                  go_wp2_with (at_builtin; refine app_first rfl (.tmp 66) (.tmp 72) rfl f y (HRq.out.alloc _) (by omega) rfl rfl (by simp) ?_; intro u' w3 hr3 hbk; have ho3 := hbk wq.heap.size #[.int .i64 x, .int .i64 y] (Blk.new wq _ _) (fun e => by have := own_lt HRq.out.ou e; omega); have o2 : w3.cell? ⟨wq.heap.size, 0, none⟩ = some (.int .i64 x) := (by rw [ho3.cell]; rfl); have o3 : w3.cell? ⟨wq.heap.size, 1, none⟩ = some (.int .i64 y) := (by rw [ho3.cell]; rfl); have d0 := hr3.c0; have d1 := hr3.c1; have fz3 := hr3.bk.frozen 0; have HR3 := Lib.hid hr3; clear hr3 hbk ho3)
                  go_roundg g2
                  case measure => omega
                  case rel => exact ⟨n + 1, L ++ [(f, y)], M, y, by omega, by go_num, HE, Lib.hid (HR3.out.setF y), by simp; omega, by omega⟩
          · have hxt' : t ≤ x := by omega
            have HE := Lib.hid (part_end HRa.out HRb.out HI.out (fun _ => by rw [HX.out]; exact hxt'))
            clear HI
            have hxd : decide (x < t) = false := by simp; omega
            go_wp2_with fail
            go_quiet (fail)
            go_wp2_with (at_builtin; refine app_second rfl (.tmp 77) (.tmp 79) rfl f t (HR.out.drewN _) (by omega) rfl rfl (by simp) ?_; intro v' w2 hr2 _)
            go_roundg g
            case measure => omega
            case rel => exact ⟨k + 1, n, L, M ++ [(f, t)], t, by omega, by go_num, rfl, by omega, HE, Lib.hid hr2.toRows2, by omega, by simp; omega⟩
end Go.Proofs.Ytfdmbgaincmefaa
