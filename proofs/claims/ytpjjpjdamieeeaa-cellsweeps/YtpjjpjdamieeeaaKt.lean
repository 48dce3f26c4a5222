/- What Begin, Commit and Abort of the reference's Clock make of it. Conditions: the Clock lies in memory, fewer than 1,000,000 transactions and commits. -/
import Derived.Test.YtpjjpjdamieeeaaKs
namespace Go.Proofs.Ytpjjpjdamieeeaa
set_option maxRecDepth 100000
set_option linter.unusedVariables false
open Go.ChangeShapes Go.WideShapes Go.ChangeAt Go.RowKit
theorem infoX : (Try.prog.info? 79).map (fun i => (i.zero, i.size, i.bytes)) = some (some (.agg #[.int .i64 0, .int .i64 0, .bool false]), 3, 24) := by kernel_rfl
theorem rcs_snoc (l : List Tx) (x : Tx) : rcs (l ++ [x]) = rcs l ++ rc x := by simp [rcs]
theorem rc_one (x : Tx) : ∀ u ∈ rc x, u.oneCell' = true := by
  intro u hu
  simp only [rc, List.mem_cons, List.not_mem_nil, or_false] at hu
  rcases hu with rfl | rfl | rfl <;> rfl
section
variable {F : Nat → Prop} {w W w' : World} {a : Nat} {v1 v' : Value} {l : List Tx} {n : Nat} {c : Ck}
theorem RM.app1 (h : RM F w a v1 l n) (hb : Below w.heap.size w W) {x : Tx} (hr : w'.ownsRow 0 79 3 v' (l.length + 1) (rcs l ++ rc x)) (hg : W.grownBy w' v1.ownBlock) (ho : v'.ownBlock = v1.ownBlock ∨ v'.ownBlock = some W.heap.size) :
    RM (Nu F w (w'.setCell ⟨a, 0, none⟩ v')) (w'.setCell ⟨a, 0, none⟩ v') a v' (l ++ [x]) n ∧ Chg F w (w'.setCell ⟨a, 0, none⟩ v') := by
  have hz : (w'.setCell ⟨a, 0, none⟩ v').heap.size = w'.heap.size := by simp [World.setCell]
  have hs := hb.size
  have hs' := hg.size
  have hm := h.below hb
  have hlt := hm.lt a hm.fa
  have hna : v1.ownBlock ≠ some a := h.nb h.r1 (by decide)
  have ha : w'.heap[a]? = some (.cells #[v1, .int .i64 (n : Nat)] 65 (0, 0)) := (hg.block a hlt (fun e => hna e.symm)).trans hm.blk
  have hn' : v'.ownBlock ≠ some a := fun e => by
    obtain ⟨cur, h1⟩ := own_type hr e
    rw [h1] at ha
    injection ha with ha; injection ha with _ ha; cases ha
  have hc : Chg F w (w'.setCell ⟨a, 0, none⟩ v') := (((Chg.below hb).grown hg (fun k hk => .inl (h.f1 k hk))).grown (grown_set w' a 0 v') (fun k e => by injection e with e; subst e; exact .inl h.fa))
  refine ⟨⟨fun k hk => ?_, .inl h.fa, fun k hk => ?_, ?_, ?_⟩, hc⟩
  · rcases hk with hk | hk
    · rw [hz]; have := h.lt k hk; omega
    · exact hk.2
  · rcases ho with ho | ho
    · exact .inl (h.f1 k (by rw [← ho]; exact hk))
    · have := World.ownsRow.lt hr k hk
      rw [ho] at hk
      injection hk with hk
      exact .inr ⟨by omega, by rw [hz]; exact this.2⟩
  · have := heap_setCell_same w' a 0 _ _ v' ha
    rw [this]; rfl
  · rw [List.length_append, rcs_snoc]
    exact ownsRow_setCell_other hr hn' _
theorem RM.at1 (h : RM F w a v1 l n) (hb : Below w.heap.size w W) {row : Option Nat} (hg : W.grownBy w' row) (hr : row ≠ some a) : w'.cell? ⟨a, 0, none⟩ = some v1 ∧ w'.cell? ⟨a, 1, none⟩ = some (.int .i64 (n : Nat)) ∧ ∀ o, w'.frozen? ⟨a, o, none⟩ = false := by
  have hm := h.below hb
  have ha := (hg.block a (hm.lt a hm.fa) (fun e => hr e.symm)).trans hm.blk
  refine ⟨?_, ?_, fun o => frozen_of_row w' a o _ _ ha⟩ <;> rw [cell_of_row w' a _ _ _ _ ha] <;> rfl
theorem rnew_cells (W : World) (x : Tx) (t : TypeId) : ∀ j u, (rc x)[j]? = some u → (W.alloc (.cells #[.int .i64 (x.mark : Nat), .int .i64 (x.com : Nat), .bool x.live] t)).cell? ((⟨W.heap.size, 0, none⟩ : Addr).add j) = some u := fun j u hj => by
  rw [Addr.add_lit, Nat.zero_add, cell_of_row _ _ j _ _ _ (heap_alloc_new W _)]
  rw [← Array.getElem?_toList]
  exact hj
theorem RM.setN (h : RM F w a v1 l n) (m : Nat) : RM F (w.setCell ⟨a, 1, none⟩ (.int .i64 (m : Nat))) a v1 l m := by
  have hz : (w.setCell ⟨a, 1, none⟩ (.int .i64 (m : Nat))).heap.size = w.heap.size := by simp [World.setCell]
  refine ⟨fun k hk => by rw [hz]; exact h.lt k hk, h.fa, h.f1, ?_, ownsRow_setCell_other h.r1 (h.nb h.r1 (by decide)) _⟩
  have := heap_setCell_same w a 1 _ _ (.int .i64 (m : Nat)) h.blk
  rw [this]; rfl
theorem RM.setTx {g cp : Nat} (h : RM F w a (.slice (some ⟨g, 0, none⟩) l.length cp) l n) {k j : Nat} (hk : k < l.length) (hj : j < 3) (u : Value) (x : Tx) (hx : rc x = (rc l[k]).set j u) : RM F (w.setCell ⟨g, k * 3 + j, none⟩ u) a (.slice (some ⟨g, 0, none⟩) l.length cp) (l.set k x) n := by
  have hz : (w.setCell ⟨g, k * 3 + j, none⟩ u).heap.size = w.heap.size := by simp [World.setCell]
  have hna : some g ≠ some a := h.nb h.r1 (by decide)
  refine ⟨fun k hk => by rw [hz]; exact h.lt k hk, h.fa, h.f1, ?_, ?_⟩
  · rw [heap_setCell_other w ⟨g, k * 3 + j, none⟩ a u (fun e => hna (by simp at e; rw [e]))]; exact h.blk
  · have := (World.ownsRow.stored h.r1 (k * 3 + j) u).1
    rw [List.length_set]
    unfold rcs at this ⊢
    rw [flat_set1 rc 3 (rc_len l) k j hk hj x u hx] at this
    exact this
theorem rbegin_full (h : RC F w a c) (hf : 4 ≤ c.cnt) :
    Calls Try.prog 35 #[.pointer (some ⟨a, 0, none⟩)] w (DoesR F w a (.tuple #[.int .i64 0, .int .i64 3]) c) := by
  have H := Lib.hid h
  have HC := Lib.hid (rcount_any h)
  have hf2 : (4 : Int) ≤ (c.cnt : Int) := by omega
  clear h
  go_enter Try.func35, Try.ntmps35
  go_wp2_with (go_at_call 21; (with_reducible refine HC.out.mono ?_); rintro e w' ⟨rfl, rfl⟩)
  go_ret2
  exact doesR_of H.out (Chg.refl _ _) H.out.lt
theorem rbegin_end {W3 : World} {v1' : Value} (h : RC F w a c) (hf : ¬ 4 ≤ c.cnt) (h3 : RM (Nu F w W3) W3 a v1' (c.l ++ [⟨c.n, 0, true⟩]) c.n ∧ Chg F w W3) : DoesR F w a (.tuple #[.int .i64 ((c.l.length : Int) + 1), .int .i64 0]) c.beg (.returned (.tuple #[.int .i64 ((c.l.length : Int) + 1), .int .i64 0])) W3 := by
  have e : c.beg = ⟨c.l ++ [⟨c.n, 0, true⟩], c.n⟩ := by unfold Ck.beg; rw [if_neg hf]
  refine ⟨rfl, ⟨Ck.beg_ok h.ok, v1', ?_⟩, h3.2⟩
  rw [e]
  exact h3.1
theorem rbegin_new (h : RC F w a c) (hf : ¬ 4 ≤ c.cnt) (hn : c.l.length ≤ 900000) :
    Calls Try.prog 35 #[.pointer (some ⟨a, 0, none⟩)] w (DoesR F w a (.tuple #[.int .i64 ((c.l.length + 1 : Nat) : Int), .int .i64 0]) c.beg) := by
  have H := Lib.hid h
  have HC0 := Lib.hid (rcount_any h)
  obtain ⟨hok, v1, h⟩ := h
  have HM := Lib.hid h
  obtain ⟨k0, k1, kf⟩ := h.cells
  obtain ⟨A1, cp1, rfl⟩ := own_slice h.r1
  have hf2 : ¬ (4 : Int) ≤ (c.cnt : Int) := by omega
  have HF := Lib.hid hf
  have HB0 := Lib.hid ((Below.refl w.heap.size w).drew.alloc (Nat.le_refl _) (.cells #[.int .i64 (c.n : Nat), .int .i64 0, .bool true] 79))
  have HR := Lib.hid (h.below HB0.out).r1
  have k0' : (w.alloc (.cells #[.int .i64 (c.n : Nat), .int .i64 0, .bool true] 79)).cell? ⟨a, 0, none⟩ = _ := (h.below HB0.out).cells.1
  have HC := Lib.hid (rnew_cells w.drew ⟨c.n, 0, true⟩ 79)
  clear h hok hf
  go_enter Try.func35, Try.ntmps35
  go_wp2_with (go_at_call 21; (with_reducible refine HC0.out.mono ?_); rintro e w' ⟨rfl, rfl⟩)
  go_region_law ((refine st_of rfl (own_wp 63 79 _ 3 24 Try.underlying63 infoX rfl (by decide) (by decide) (.tmp 11) (.tmp 17) rfl _ _ (rcs c.l) HR.out rfl ⟨w.heap.size, 0, none⟩ 1 1 (rc ⟨c.n, 0, true⟩) rfl rfl HC.out (rc_one _) (by omega) ?_); intro v3 w3 hr3 hg3 ho3; obtain ⟨j0, j1, jf⟩ := HM.out.at1 HB0.out hg3 (HM.out.nb HM.out.r1 (by decide)); obtain ⟨A3, c3, rfl⟩ := own_slice hr3; have H3 := Lib.hid (HM.out.app1 HB0.out hr3 hg3 ho3); clear hr3 hg3 ho3))
  all_goals (
    clear k0 k1 kf k0' j0 j1 jf HC HR HB0
    generalize w3.setCell ⟨a, 0, none⟩ (.slice A3 (c.l.length + 1) c3) = W3 at *
    have h3 := H3.out.1
    obtain ⟨k0, k1, kf⟩ := h3.cells
    clear h3
    go_wp2
    go_ret2
    exact rbegin_end H.out HF.out H3.out)
theorem rbegin_any (h : RC F w a c) (hn : c.l.length ≤ 900000) :
    Calls Try.prog 35 #[.pointer (some ⟨a, 0, none⟩)] w (DoesR F w a (.tuple #[.int .i64 c.begT, .int .i64 c.begE]) c.beg) := by
  by_cases hf : 4 ≤ c.cnt
  · have e1 : c.begT = 0 := by unfold Ck.begT; rw [if_pos hf]
    have e2 : c.begE = 3 := by unfold Ck.begE; rw [if_pos hf]
    have e3 : c.beg = c := by unfold Ck.beg; rw [if_pos hf]
    rw [e1, e2, e3]
    exact rbegin_full h hf
  · have e1 : c.begT = ((c.l.length + 1 : Nat) : Int) := by unfold Ck.begT; rw [if_neg hf]
    have e2 : c.begE = 0 := by unfold Ck.begE; rw [if_neg hf]
    rw [e1, e2]
    exact rbegin_new h hf hn
theorem rchg_set (h : F a) (o : Nat) (u : Value) : Chg F w (w.setCell ⟨a, o, none⟩ u) := (Chg.refl F w).grown (grown_set w a o u) fun k e => by injection e with e; subst e; exact .inl h
theorem rcommit_any (h : RC F w a c) (t : Int) (hn : c.n ≤ 900000) (hlen : c.l.length ≤ 900000) :
    Calls Try.prog 36 #[.pointer (some ⟨a, 0, none⟩), .int .i64 t] w (DoesR F w a (.int .i64 (c.endE t)) (c.comS t)) := by
  have H := Lib.hid h
  have HV := rlive_any h t
  cases ht : c.isLive t with
  | false =>
    rw [show c.endE t = 5 by simp [Ck.endE, ht], show c.comS t = c by simp [Ck.comS, ht]]
    rw [ht] at HV
    have HV := Lib.hid HV
    clear h ht
    go_enter Try.func36, Try.ntmps36
    go_wp2_with (go_at_call 15; (with_reducible refine HV.out.mono ?_); rintro e w' ⟨rfl, rfl⟩)
    go_ret
    exact doesR_of H.out (Chg.refl _ _) H.out.lt
  | true =>
    rw [show c.endE t = 0 by simp [Ck.endE, ht]]
    have hok2 := Ck.com_ok h.ok t
    have e0 : c.comS t = ⟨c.l.set (t.toNat - 1) ⟨(c.tx t).mark, c.n + 1, false⟩, c.n + 1⟩ := by unfold Ck.comS; rw [if_pos ht]
    rw [e0] at hok2 ⊢
    rw [ht] at HV
    have HV := Lib.hid HV
    obtain ⟨hok, v1, hm⟩ := h
    have HM := Lib.hid hm
    have HO := Lib.hid hok2
    obtain ⟨p1, p2⟩ := Ck.live_has ht
    rcases has_split (c := c) (t := t) with ⟨_, k, ht1, hk, hx⟩ | ⟨p3, _⟩
    case inr => rw [p3] at p1; cases p1
    obtain rfl : t = (k : Int) + 1 := by omega
    rw [hx hk] at HO ⊢
    have hkk : ((k : Int) + 1).toNat - 1 = k := by omega
    rw [hkk] at HO ⊢
    obtain ⟨k0, k1, kf⟩ := hm.cells
    clear hok hok2 p1 p2 e0 hkk ht1 hx ht hm
    go_enter Try.func36, Try.ntmps36
    go_wp2_with (go_at_call 15; (with_reducible refine HV.out.mono ?_); rintro e w' ⟨rfl, rfl⟩)
    have hm2 : RM F (w.setCell ⟨a, 1, none⟩ (.int .i64 ((c.n : Int) + 1))) a v1 c.l (c.n + 1) := HM.out.setN (c.n + 1)
    have HC2 : Hid (Chg F w (w.setCell ⟨a, 1, none⟩ (.int .i64 ((c.n : Int) + 1)))) := rchg_set HM.out.fa _ _
    clear k0 k1 kf
    generalize w.setCell ⟨a, 1, none⟩ (.int .i64 ((c.n : Int) + 1)) = W2 at *
    obtain ⟨k0, k1, kf⟩ := hm2.cells
    obtain ⟨g, cp, rfl, hFg, r0, r1, r2, rf⟩ := hm2.row hk
    have hi5 : IntKind.i64.wrap (k : Int) = (k : Int) := wrapI (by omega)
    have hm3 := hm2.setTx hk (j := 2) (by omega) (.bool false) ⟨c.l[k].mark, c.l[k].com, false⟩ rfl
    have HM3 : Hid (RM F ((W2.setCell ⟨g, k * 3 + 2, none⟩ (.bool false)).setCell ⟨g, k * 3 + 1, none⟩ (.int .i64 ((c.n : Int) + 1))) a (.slice (some ⟨g, 0, none⟩) c.l.length cp) (c.l.set k ⟨c.l[k].mark, c.n + 1, false⟩) (c.n + 1)) := by
      have e : c.l.length = (c.l.set k ⟨c.l[k].mark, c.l[k].com, false⟩).length := by rw [List.length_set]
      simp only [Hid]
      rw [e] at hm3
      have h4 := hm3.setTx (k := k) (j := 1) (by rw [← e]; exact hk) (by omega) (.int .i64 ((c.n : Int) + 1)) ⟨c.l[k].mark, c.n + 1, false⟩ (by simp [rc])
      rw [← e, List.set_set] at h4
      exact h4
    have HC3 : Hid (Chg F w ((W2.setCell ⟨g, k * 3 + 2, none⟩ (.bool false)).setCell ⟨g, k * 3 + 1, none⟩ (.int .i64 ((c.n : Int) + 1)))) :=
      (HC2.out.grown (grown_set W2 g (k * 3 + 2) (.bool false)) (fun j e => by injection e with e; subst e; exact .inl hFg)).grown (grown_set _ g (k * 3 + 1) (.int .i64 ((c.n : Int) + 1))) (fun j e => by injection e with e; subst e; exact .inl hFg)
    have HFG := Lib.hid hFg
    clear hm2 hm3 hFg HM HV HC2
    go_wp2_with fail
    go_region
    all_goals (
      go_wp2
      go_ret
      exact ⟨rfl, ⟨HO.out, _, (HM3.out.drew).same (fun k hk => .inl hk) (fun k hk => by
        rcases hk with hk | hk
        · exact Nat.lt_of_lt_of_le (H.out.lt k hk) HC3.out.size
        · exact hk.2) (fun _ _ => rfl)⟩, HC3.out.grown (grown_drew _ none) (fun k e => by cases e)⟩)
theorem rabort_any (h : RC F w a c) (t : Int) (hlen : c.l.length ≤ 900000) :
    Calls Try.prog 37 #[.pointer (some ⟨a, 0, none⟩), .int .i64 t] w (DoesR F w a (.int .i64 (c.endE t)) (c.abS t)) := by
  have H := Lib.hid h
  have HV := rlive_any h t
  cases ht : c.isLive t with
  | false =>
    rw [show c.endE t = 5 by simp [Ck.endE, ht], show c.abS t = c by simp [Ck.abS, ht]]
    rw [ht] at HV
    have HV := Lib.hid HV
    clear h ht
    go_enter Try.func37, Try.ntmps37
    go_wp2_with (go_at_call 15; (with_reducible refine HV.out.mono ?_); rintro e w' ⟨rfl, rfl⟩)
    go_ret
    exact doesR_of H.out (Chg.refl _ _) H.out.lt
  | true =>
    rw [show c.endE t = 0 by simp [Ck.endE, ht]]
    have hok2 := Ck.ab_ok h.ok t
    have e0 : c.abS t = ⟨c.l.set (t.toNat - 1) ⟨(c.tx t).mark, (c.tx t).com, false⟩, c.n⟩ := by unfold Ck.abS; rw [if_pos ht]
    rw [e0] at hok2 ⊢
    rw [ht] at HV
    have HV := Lib.hid HV
    obtain ⟨hok, v1, hm⟩ := h
    have HO := Lib.hid hok2
    obtain ⟨p1, p2⟩ := Ck.live_has ht
    rcases has_split (c := c) (t := t) with ⟨_, k, ht1, hk, hx⟩ | ⟨p3, _⟩
    case inr => rw [p3] at p1; cases p1
    obtain rfl : t = (k : Int) + 1 := by omega
    rw [hx hk] at HO ⊢
    have hkk : ((k : Int) + 1).toNat - 1 = k := by omega
    rw [hkk] at HO ⊢
    obtain ⟨k0, k1, kf⟩ := hm.cells
    obtain ⟨g, cp, rfl, hFg, r0, r1, r2, rf⟩ := hm.row hk
    have hi5 : IntKind.i64.wrap (k : Int) = (k : Int) := wrapI (by omega)
    have HM3 := Lib.hid (hm.setTx hk (j := 2) (by omega) (.bool false) ⟨c.l[k].mark, c.l[k].com, false⟩ rfl)
    have HC3 : Hid (Chg F w (w.setCell ⟨g, k * 3 + 2, none⟩ (.bool false))) := rchg_set hFg _ _
    clear hok hok2 p1 p2 e0 hkk ht1 hx ht hm
    go_enter Try.func37, Try.ntmps37
    go_wp2_with (go_at_call 15; (with_reducible refine HV.out.mono ?_); rintro e w' ⟨rfl, rfl⟩)
    go_ret
    exact ⟨rfl, ⟨HO.out, _, HM3.out.same (fun k hk => .inl hk) (fun k hk => by
        rcases hk with hk | hk
        · exact Nat.lt_of_lt_of_le (H.out.lt k hk) HC3.out.size
        · exact hk.2) (fun _ _ => rfl)⟩, HC3.out⟩
end
end Go.Proofs.Ytpjjpjdamieeeaa
