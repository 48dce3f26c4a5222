/- What Begin of a Clock of package clock makes of it. Conditions: the Clock lies in memory, fewer than 1,000,000 transactions. -/
import Derived.Test.YtpjjpjdamieeeaaKd
namespace Go.Proofs.Ytpjjpjdamieeeaa
set_option maxRecDepth 100000
set_option linter.unusedVariables false
open Go.ChangeShapes Go.WideShapes Go.ChangeAt Go.RowKit
theorem infoT : (Try.prog.info? 94).map (fun i => (i.zero, i.size, i.bytes)) = some (some (.agg #[.int .i64 0, .int .i64 0, .bool false]), 3, 24) := by kernel_rfl
theorem tcs_snoc (l : List Tx) (x : Tx) : tcs (l ++ [x]) = tcs l ++ tc x := by simp [tcs]
theorem tc_one (x : Tx) : ∀ u ∈ tc x, u.oneCell' = true := by
  intro u hu
  simp only [tc, List.mem_cons, List.not_mem_nil, or_false] at hu
  rcases hu with rfl | rfl | rfl <;> rfl
theorem ics_snoc (L : List Int) (t : Int) : ics (L ++ [t]) = ics L ++ [.int .i64 t] := by simp [ics]
section
variable {F : Nat → Prop} {w W w' : World} {a : Nat} {v1 v2 v' : Value} {l : List Tx} {L : List Int} {n : Nat} {c : Ck}
theorem PM.app1 (h : PM F w a v1 v2 l L n) (hb : Below w.heap.size w W) {x : Tx} (hr : w'.ownsRow 0 94 3 v' (l.length + 1) (tcs l ++ tc x)) (hg : W.grownBy w' v1.ownBlock) (ho : v'.ownBlock = v1.ownBlock ∨ v'.ownBlock = some W.heap.size) :
    PM (Nu F w (w'.setCell ⟨a, 0, none⟩ v')) (w'.setCell ⟨a, 0, none⟩ v') a v' v2 (l ++ [x]) L n ∧ Chg F w (w'.setCell ⟨a, 0, none⟩ v') := by
  have hz : (w'.setCell ⟨a, 0, none⟩ v').heap.size = w'.heap.size := by simp [World.setCell]
  have hs := hb.size
  have hs' := hg.size
  have hm := h.below hb
  have hlt := hm.lt a hm.fa
  have hna : v1.ownBlock ≠ some a := h.nb h.r1 (by decide)
  have ha : w'.heap[a]? = some (.cells #[v1, v2, .int .i64 (n : Nat)] 92 (0, 0)) := (hg.block a hlt (fun e => hna e.symm)).trans hm.blk
  have hn' : v'.ownBlock ≠ some a := fun e => by
    obtain ⟨cur, h1⟩ := own_type hr e
    rw [h1] at ha
    injection ha with ha; injection ha with _ ha; cases ha
  have hc : Chg F w (w'.setCell ⟨a, 0, none⟩ v') := (((Chg.below hb).grown hg (fun k hk => .inl (h.f1 k hk))).grown (grown_set w' a 0 v') (fun k e => by injection e with e; subst e; exact .inl h.fa))
  refine ⟨⟨fun k hk => ?_, .inl h.fa, fun k hk => ?_, fun k hk => .inl (h.f2 k hk), ?_, ?_, ?_⟩, hc⟩
  · rcases hk with hk | hk
    · rw [hz]; have := h.lt k hk; omega
    · exact hk.2
  · rcases ho with ho | ho
    · exact .inl (h.f1 k (by rw [← ho]; exact hk))
    · have := World.ownsRow.lt hr k hk
      rw [ho] at hk
      injection hk with hk
      exact .inr ⟨by omega, by rw [hz]; exact this.2⟩
  · have := heap_setCell_same w' a 0 _ _ v' ha
    rw [this]; rfl
  · rw [List.length_append, tcs_snoc]
    exact ownsRow_setCell_other hr hn' _
  · refine ownsRow_setCell_other (own_same hm.r2 (fun k hk => hg.block k (hm.lt k (hm.f2 k hk)) (fun e => ?_))) (h.nb h.r2 (by decide)) _
    exact h.n12 e.symm hk
theorem PM.put2 (h : PM F w a v1 v2 l L n) (hb : Below w.heap.size w W) {L' : List Int} (hr : w'.ownsRow 0 3 1 v' L'.length (ics L')) (hg : W.grownBy w' v2.ownBlock) (ho : v'.ownBlock = v2.ownBlock ∨ v'.ownBlock = some W.heap.size) :
    PM (Nu F w (w'.setCell ⟨a, 1, none⟩ v')) (w'.setCell ⟨a, 1, none⟩ v') a v1 v' l L' n ∧ Chg F w (w'.setCell ⟨a, 1, none⟩ v') := by
  have hz : (w'.setCell ⟨a, 1, none⟩ v').heap.size = w'.heap.size := by simp [World.setCell]
  have hs := hb.size
  have hs' := hg.size
  have hm := h.below hb
  have hlt := hm.lt a hm.fa
  have hna : v2.ownBlock ≠ some a := h.nb h.r2 (by decide)
  have ha : w'.heap[a]? = some (.cells #[v1, v2, .int .i64 (n : Nat)] 92 (0, 0)) := (hg.block a hlt (fun e => hna e.symm)).trans hm.blk
  have hn' : v'.ownBlock ≠ some a := fun e => by
    obtain ⟨cur, h1⟩ := own_type hr e
    rw [h1] at ha
    injection ha with ha; injection ha with _ ha; cases ha
  have hc : Chg F w (w'.setCell ⟨a, 1, none⟩ v') := (((Chg.below hb).grown hg (fun k hk => .inl (h.f2 k hk))).grown (grown_set w' a 1 v') (fun k e => by injection e with e; subst e; exact .inl h.fa))
  refine ⟨⟨fun k hk => ?_, .inl h.fa, fun k hk => .inl (h.f1 k hk), fun k hk => ?_, ?_, ?_, ?_⟩, hc⟩
  · rcases hk with hk | hk
    · rw [hz]; have := h.lt k hk; omega
    · exact hk.2
  · rcases ho with ho | ho
    · exact .inl (h.f2 k (by rw [← ho]; exact hk))
    · have := World.ownsRow.lt hr k hk
      rw [ho] at hk
      injection hk with hk
      exact .inr ⟨by omega, by rw [hz]; exact this.2⟩
  · have := heap_setCell_same w' a 1 _ _ v' ha
    rw [this]; rfl
  · refine ownsRow_setCell_other (own_same hm.r1 (fun k hk => hg.block k (hm.lt k (hm.f1 k hk)) (fun e => ?_))) (h.nb h.r1 (by decide)) _
    exact h.n12 hk e.symm
  · exact ownsRow_setCell_other hr hn' _
theorem PM.app2 (h : PM F w a v1 v2 l L n) (hb : Below w.heap.size w W) {x : Int} (hr : w'.ownsRow 0 3 1 v' (L.length + 1) (ics L ++ [.int .i64 x])) (hg : W.grownBy w' v2.ownBlock) (ho : v'.ownBlock = v2.ownBlock ∨ v'.ownBlock = some W.heap.size) :
    PM (Nu F w (w'.setCell ⟨a, 1, none⟩ v')) (w'.setCell ⟨a, 1, none⟩ v') a v1 v' l (L ++ [x]) n ∧ Chg F w (w'.setCell ⟨a, 1, none⟩ v') := by
  refine h.put2 hb ?_ hg ho
  rw [List.length_append, ics_snoc]
  exact hr
theorem PM.at1 (h : PM F w a v1 v2 l L n) (hb : Below w.heap.size w W) {row : Option Nat} (hg : W.grownBy w' row) (hr : row ≠ some a) : w'.cell? ⟨a, 0, none⟩ = some v1 ∧ w'.cell? ⟨a, 1, none⟩ = some v2 ∧ w'.cell? ⟨a, 2, none⟩ = some (.int .i64 (n : Nat)) ∧ ∀ o, w'.frozen? ⟨a, o, none⟩ = false := by
  have hm := h.below hb
  have ha := (hg.block a (hm.lt a hm.fa) (fun e => hr e.symm)).trans hm.blk
  refine ⟨?_, ?_, ?_, fun o => frozen_of_row w' a o _ _ ha⟩ <;> rw [cell_of_row w' a _ _ _ _ ha] <;> rfl
theorem new_cells (W : World) (x : Tx) (t : TypeId) : ∀ j u, (tc x)[j]? = some u → (W.alloc (.cells #[.int .i64 (x.mark : Nat), .int .i64 (x.com : Nat), .bool (abd x)] t)).cell? ((⟨W.heap.size, 0, none⟩ : Addr).add j) = some u := fun j u hj => by
  rw [Addr.add_lit, Nat.zero_add, cell_of_row _ _ j _ _ _ (heap_alloc_new W _)]
  rw [← Array.getElem?_toList]
  exact hj
theorem Lv.beg (h : Lv c L) (hf : ¬ 4 ≤ c.cnt) : Lv c.beg (L ++ [((c.l.length + 1 : Nat) : Int)]) := by
  obtain ⟨n1, n2⟩ := Ck.beg_new hf
  have hlow : ∀ t ∈ L, t ≤ (c.l.length : Int) := fun t ht => (Ck.has_iff.1 (Ck.live_has ((h.mem t).1 ht)).1).2
  refine ⟨by rw [Ck.beg_cnt hf, List.length_append, h.len]; rfl, fun t => ?_, ?_⟩
  · rw [List.mem_append, List.mem_singleton]
    constructor
    · rintro (ht | rfl)
      · obtain ⟨h1, h2⟩ := Ck.live_has ((h.mem t).1 ht)
        unfold Ck.isLive
        rw [Ck.beg_has h1, Ck.beg_tx h1, h2]; rfl
      · unfold Ck.isLive
        rw [n1, n2]; rfl
    · intro ht
      obtain ⟨h1, h2⟩ := Ck.live_has ht
      cases hc : c.has t with
      | true =>
        rw [Ck.beg_tx hc] at h2
        exact .inl ((h.mem t).2 (by unfold Ck.isLive; rw [hc, h2]; rfl))
      | false =>
        have h3 := Ck.has_iff.1 h1
        rw [Ck.beg_len, if_neg hf] at h3
        have h4 : ¬ (1 ≤ t ∧ t ≤ (c.l.length : Int)) := fun e => by rw [Ck.has_iff.2 e] at hc; cases hc
        exact .inr (by omega)
  · rw [List.nodup_append]
    refine ⟨h.nd, by simp, fun x hx y hy => ?_⟩
    rw [List.mem_singleton] at hy
    have := hlow x hx
    omega
theorem Chg.wide {G : Nat → Prop} {w w1 w2 : World} (h : Chg F w w1) (hc : Chg (Nu F w w1) w1 w2) (hG : ∀ k, G k → Nu (Nu F w w1) w1 w2 k) : ∀ k, G k → Nu F w w2 k := fun k hk => by
  have s1 := h.size
  have s2 := hc.size
  rcases hG k hk with hk | hk
  · rcases hk with hk | hk
    · exact .inl hk
    · exact .inr ⟨hk.1, by omega⟩
  · exact .inr ⟨by omega, hk.2⟩
theorem new_int (W : World) (x : Int) (t : TypeId) : ∀ j u, ([.int .i64 x] : List Value)[j]? = some u → (W.alloc (.cells #[.int .i64 x] t)).cell? ((⟨W.heap.size, 0, none⟩ : Addr).add j) = some u := fun j u hj => by
  rw [Addr.add_lit, Nat.zero_add, cell_of_row _ _ j _ _ _ (heap_alloc_new W _)]
  rw [← Array.getElem?_toList]
  exact hj
theorem begin_end {W3 W5 : World} {v1' v2' : Value} (h : PC F w a c) (hl : Lv c L) (hf : ¬ 4 ≤ c.cnt) (h3 : PM (Nu F w W3) W3 a v1 v2 (c.l ++ [⟨c.n, 0, true⟩]) L c.n ∧ Chg F w W3)
    (h5 : PM (Nu (Nu F w W3) W3 W5) W5 a v1' v2' (c.l ++ [⟨c.n, 0, true⟩]) (L ++ [(c.l.length : Int) + 1]) c.n ∧ Chg (Nu F w W3) W3 W5) : Does F w a (.tuple #[.int .i64 ((c.l.length : Int) + 1), .int .i64 0]) c.beg (.returned (.tuple #[.int .i64 ((c.l.length : Int) + 1), .int .i64 0])) W5 := by
  have e : c.beg = ⟨c.l ++ [⟨c.n, 0, true⟩], c.n⟩ := by unfold Ck.beg; rw [if_neg hf]
  have hb := hl.beg hf
  refine ⟨rfl, ⟨Ck.beg_ok h.ok, v1', v2', _, hb, ?_⟩, h3.2.trans h5.2⟩
  rw [e]
  exact h5.1.same (h3.2.wide h5.2 (fun k hk => hk)) (fun k hk => by
    rcases hk with hk | hk
    · exact h5.1.lt k (.inl (.inl hk))
    · exact hk.2) (fun _ _ => rfl)
theorem begin_full (h : PC F w a c) (hf : 4 ≤ c.cnt) :
    Calls Try.prog 22 #[.pointer (some ⟨a, 0, none⟩)] w (Does F w a (.tuple #[.int .i64 0, .int .i64 3]) c) := by
  have H := Lib.hid h
  obtain ⟨hok, v1, v2, L, hl, h⟩ := h
  obtain ⟨k0, k1, k2, kf⟩ := h.cells
  obtain ⟨A, cp, rfl⟩ := own_slice h.r2
  have hlen : 4 ≤ L.length := by rw [hl.len]; exact hf
  clear h hl hok hf
  go_enter Try.func22, Try.ntmps22
  go_wp2
  go_ret2
  exact does_of H.out (Chg.refl _ _) H.out.lt
theorem begin_nil (w : World) :
    Calls Try.prog 22 #[.pointer none] w fun e w' => e = .returned (.tuple #[.int .i64 0, .int .i64 3]) ∧ w = w' := by
  go_enter Try.func22, Try.ntmps22
  go_wp2
  go_ret2
  exact ⟨rfl, rfl⟩
theorem begin_new (h : PC F w a c) (hf : ¬ 4 ≤ c.cnt) (hn : c.l.length ≤ 900000) :
    Calls Try.prog 22 #[.pointer (some ⟨a, 0, none⟩)] w (Does F w a (.tuple #[.int .i64 ((c.l.length + 1 : Nat) : Int), .int .i64 0]) c.beg) := by
  have H := Lib.hid h
  obtain ⟨hok, v1, v2, L, hl, h⟩ := h
  have HM := Lib.hid h
  have HL := Lib.hid hl
  obtain ⟨k0, k1, k2, kf⟩ := h.cells
  obtain ⟨A, cp, rfl⟩ := own_slice h.r2
  obtain ⟨A1, cp1, rfl⟩ := own_slice h.r1
  have hlen : ¬ 4 ≤ L.length := by rw [hl.len]; exact hf
  have hlt := Lib.hid (h.lt a h.fa)
  have HF := Lib.hid hf
  have HB0 := Lib.hid ((Below.refl w.heap.size w).drew.alloc (Nat.le_refl _) (.cells #[.int .i64 (c.n : Nat), .int .i64 0, .bool false] 94))
  have HR := Lib.hid (h.below HB0.out).r1
  have k0' : (w.alloc (.cells #[.int .i64 (c.n : Nat), .int .i64 0, .bool false] 94)).cell? ⟨a, 0, none⟩ = _ := (h.below HB0.out).cells.1
  have HC := Lib.hid (new_cells w.drew ⟨c.n, 0, true⟩ 94)
  clear h hl hok hf
  go_enter Try.func22, Try.ntmps22
  go_wp2_with fail
  go_region_law ((refine st_of rfl (own_wp 90 94 _ 3 24 Try.underlying90 infoT rfl (by decide) (by decide) (.tmp 19) (.tmp 25) rfl _ _ (tcs c.l) HR.out rfl ⟨w.heap.size, 0, none⟩ 1 1 (tc ⟨c.n, 0, true⟩) rfl rfl HC.out (tc_one _) (by omega) ?_); intro v3 w3 hr3 hg3 ho3; obtain ⟨j0, j1, j2, jf⟩ := HM.out.at1 HB0.out hg3 (HM.out.nb HM.out.r1 (by decide)); obtain ⟨A3, c3, rfl⟩ := own_slice hr3; have H3 := Lib.hid (HM.out.app1 HB0.out hr3 hg3 ho3); clear hr3 hg3 ho3))
  all_goals (
    clear k0 k1 k2 kf k0' j0 j1 j2 jf HC HR HB0
    generalize w3.setCell ⟨a, 0, none⟩ (.slice A3 (c.l.length + 1) c3) = W3 at *
    have h3 := H3.out.1
    obtain ⟨k0, k1, k2, kf⟩ := h3.cells
    have HB1 := Lib.hid ((Below.refl W3.heap.size W3).alloc (Nat.le_refl _) (.cells #[.int .i64 ((c.l.length : Int) + 1)] 3))
    have HR := Lib.hid (h3.below HB1.out).r2
    have HC := Lib.hid (new_int W3 ((c.l.length : Int) + 1) 3)
    clear h3
    go_wp2_with (refine wp_own 36 3 _ 1 8 Try.underlying36 infoI rfl (by decide) (by decide) rfl (.tmp 38) (.tmp 40) rfl _ _ (ics L) HR.out rfl ⟨W3.heap.size, 0, none⟩ 1 1 [.int .i64 ((c.l.length : Int) + 1)] rfl rfl HC.out (fun u hu => by rw [List.mem_singleton] at hu; subst hu; rfl) (by omega) ?_; intro v5 w5 hr5 hg5 ho5; obtain ⟨i0, i1, i2, jf⟩ := H3.out.1.at1 HB1.out hg5 (H3.out.1.nb H3.out.1.r2 (by decide)); obtain ⟨A5, c5, rfl⟩ := own_slice hr5; have H5 := Lib.hid (H3.out.1.app2 HB1.out hr5 hg5 ho5); clear hr5 hg5 ho5)
    go_ret2
    clear i0 i1 i2 jf
    generalize w5.setCell ⟨a, 1, none⟩ (.slice A5 (L.length + 1) c5) = W5 at *
    exact begin_end H.out HL.out HF.out H3.out H5.out)
theorem begin_any (h : PC F w a c) (hn : c.l.length ≤ 900000) :
    Calls Try.prog 22 #[.pointer (some ⟨a, 0, none⟩)] w (Does F w a (.tuple #[.int .i64 c.begT, .int .i64 c.begE]) c.beg) := by
  by_cases hf : 4 ≤ c.cnt
  · have e1 : c.begT = 0 := by unfold Ck.begT; rw [if_pos hf]
    have e2 : c.begE = 3 := by unfold Ck.begE; rw [if_pos hf]
    have e3 : c.beg = c := by unfold Ck.beg; rw [if_pos hf]
    rw [e1, e2, e3]
    exact begin_full h hf
  · have e1 : c.begT = ((c.l.length + 1 : Nat) : Int) := by unfold Ck.begT; rw [if_neg hf]
    have e2 : c.begE = 0 := by unfold Ck.begE; rw [if_neg hf]
    rw [e1, e2]
    exact begin_new h hf hn
end
end Go.Proofs.Ytpjjpjdamieeeaa
