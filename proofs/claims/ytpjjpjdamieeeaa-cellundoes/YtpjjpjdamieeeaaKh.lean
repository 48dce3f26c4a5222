/- What Commit and Abort of package clock make of a Clock. Conditions: the Clock lies in memory, fewer than 1,000,000 commits. -/
import Derived.Test.YtpjjpjdamieeeaaKf
namespace Go.Proofs.Ytpjjpjdamieeeaa
set_option maxRecDepth 100000
set_option linter.unusedVariables false
open Go.ChangeShapes Go.WideShapes Go.ChangeAt Go.RowKit
section
variable {F : Nat → Prop} {w W w' : World} {a : Nat} {v1 v2 v' : Value} {l : List Tx} {L : List Int} {n : Nat} {c : Ck}
theorem Lv.split (h : Lv c L) {t : Int} (ht : c.isLive t = true) : ∃ L1 L2, L = L1 ++ t :: L2 ∧ t ∉ L1 ∧ t ∉ L2 := by
  obtain ⟨L1, L2, rfl⟩ := List.append_of_mem ((h.mem t).2 ht)
  have hn := h.nd
  rw [List.nodup_append, List.nodup_cons] at hn
  exact ⟨L1, L2, rfl, fun hx => hn.2.2 t hx t (by simp) rfl, hn.2.1.1⟩
theorem Lv.gone {t : Int} {L1 L2 : List Int} (h : Lv c (L1 ++ t :: L2)) (ht : c.isLive t = true) (h1 : t ∉ L1) (h2 : t ∉ L2) {x : Tx} {m : Nat} (hx : x.live = false) : Lv ⟨c.l.set (t.toNat - 1) x, m⟩ (L1 ++ L2) := by
  obtain ⟨p1, p2⟩ := Ck.live_has ht
  refine ⟨?_, fun u => ?_, ?_⟩
  · have e1 := Ck.set_cnt (n := m) ht hx
    have e2 := h.len
    simp only [List.length_append, List.length_cons] at e2 ⊢
    omega
  · have e := h.mem u
    rw [List.mem_append, List.mem_cons] at e
    rw [List.mem_append]
    unfold Ck.isLive at e ⊢
    rw [Ck.set_has]
    cases hu : c.has u with
    | false =>
      rw [hu] at e
      simp only [Bool.false_and, Bool.false_eq_true, iff_false, not_or] at e ⊢
      exact ⟨e.1, e.2.2⟩
    | true =>
      rw [Ck.set_tx p1 hu]
      by_cases ht2 : u = t
      · subst ht2
        rw [if_pos rfl, hx]
        simp [h1, h2]
      · rw [if_neg ht2]
        rw [hu] at e
        rw [← e]
        simp [ht2]
  · have hn := h.nd
    rw [List.nodup_append, List.nodup_cons] at hn
    rw [List.nodup_append]
    exact ⟨hn.1, hn.2.1.2, fun x hx y hy => hn.2.2 x hx y (by simp [hy])⟩
/-- Cell 2, how many commits there were, is written. -/
theorem PM.setN (h : PM F w a v1 v2 l L n) (m : Nat) : PM F (w.setCell ⟨a, 2, none⟩ (.int .i64 (m : Nat))) a v1 v2 l L m := by
  have hz : (w.setCell ⟨a, 2, none⟩ (.int .i64 (m : Nat))).heap.size = w.heap.size := by simp [World.setCell]
  refine ⟨fun k hk => by rw [hz]; exact h.lt k hk, h.fa, h.f1, h.f2, ?_, ownsRow_setCell_other h.r1 (h.nb h.r1 (by decide)) _, ownsRow_setCell_other h.r2 (h.nb h.r2 (by decide)) _⟩
  have := heap_setCell_same w a 2 _ _ (.int .i64 (m : Nat)) h.blk
  rw [this]; rfl
/-- A cell of transaction k is written. -/
theorem PM.setTx {g cp : Nat} (h : PM F w a (.slice (some ⟨g, 0, none⟩) l.length cp) v2 l L n) {k j : Nat} (hk : k < l.length) (hj : j < 3) (u : Value) (x : Tx) (hx : tc x = (tc l[k]).set j u) : PM F (w.setCell ⟨g, k * 3 + j, none⟩ u) a (.slice (some ⟨g, 0, none⟩) l.length cp) v2 (l.set k x) L n := by
  have hz : (w.setCell ⟨g, k * 3 + j, none⟩ u).heap.size = w.heap.size := by simp [World.setCell]
  have hna : some g ≠ some a := h.nb h.r1 (by decide)
  refine ⟨fun k hk => by rw [hz]; exact h.lt k hk, h.fa, h.f1, h.f2, ?_, ?_, ownsRow_setCell_other (a := ⟨g, k * 3 + j, none⟩) h.r2 (h.n12 rfl) _⟩
  · rw [heap_setCell_other w ⟨g, k * 3 + j, none⟩ a u (fun e => hna (by simp at e; rw [e]))]; exact h.blk
  · have := (World.ownsRow.stored h.r1 (k * 3 + j) u).1
    rw [List.length_set]
    unfold tcs at this ⊢
    rw [flat_set1 tc 3 (tc_len l) k j hk hj x u hx] at this
    exact this
theorem chg_set (h : F a) (o : Nat) (u : Value) : Chg F w (w.setCell ⟨a, o, none⟩ u) := (Chg.refl F w).grown (grown_set w a o u) fun k e => by injection e with e; subst e; exact .inl h
theorem commit_no (h : PC F w a c) (t : Int) (ht : c.isLive t = false) :
    Calls Try.prog 24 #[.pointer (some ⟨a, 0, none⟩), .int .i64 t] w (Does F w a (.int .i64 5) c) := by
  have H := Lib.hid h
  have HV := isLive_any h t
  rw [ht] at HV
  have HV := Lib.hid HV
  clear h ht
  go_enter Try.func24, Try.ntmps24
  go_wp2_with (go_at_call 52; (with_reducible refine HV.out.mono ?_); rintro e w1 ⟨rfl, hb1⟩)
  go_ret
  exact does_of (H.out.below hb1) (Chg.below hb1) H.out.lt
theorem commit_nil (w : World) (t : Int) :
    Calls Try.prog 24 #[.pointer none, .int .i64 t] w fun e w' => e = .returned (.int .i64 5) ∧ Below w.heap.size w w' := by
  have HV := Lib.hid (live_nil w t)
  go_enter Try.func24, Try.ntmps24
  go_wp2_with (go_at_call 52; (with_reducible refine HV.out.mono ?_); rintro e w1 ⟨rfl, hb1⟩)
  go_ret
  exact ⟨rfl, hb1⟩
theorem abort_no (h : PC F w a c) (t : Int) (ht : c.isLive t = false) :
    Calls Try.prog 25 #[.pointer (some ⟨a, 0, none⟩), .int .i64 t] w (Does F w a (.int .i64 5) c) := by
  have H := Lib.hid h
  have HV := isLive_any h t
  rw [ht] at HV
  have HV := Lib.hid HV
  clear h ht
  go_enter Try.func25, Try.ntmps25
  go_wp2_with (go_at_call 52; (with_reducible refine HV.out.mono ?_); rintro e w1 ⟨rfl, hb1⟩)
  go_ret
  exact does_of (H.out.below hb1) (Chg.below hb1) H.out.lt
theorem abort_nil (w : World) (t : Int) :
    Calls Try.prog 25 #[.pointer none, .int .i64 t] w fun e w' => e = .returned (.int .i64 5) ∧ Below w.heap.size w w' := by
  have HV := Lib.hid (live_nil w t)
  go_enter Try.func25, Try.ntmps25
  go_wp2_with (go_at_call 52; (with_reducible refine HV.out.mono ?_); rintro e w1 ⟨rfl, hb1⟩)
  go_ret
  exact ⟨rfl, hb1⟩
theorem PM.drew (h : PM F w a v1 v2 l L n) : PM F w.drew a v1 v2 l L n := h.same (fun _ h => h) h.lt (fun _ _ => rfl)
/-- The end of Commit and of Abort. -/
theorem ended {w1 W3 w4 : World} {E : Int} {v1' v2' : Value} {L1 L2 : List Int} {t : Int} {x : Tx} {m i : Nat} (hi : t.toNat - 1 = i) (h : PC F w a c) (hb : Below w.heap.size w w1) (hc : Chg F w1 W3) (hl : Lv c (L1 ++ t :: L2)) (ht : c.isLive t = true) (h1 : t ∉ L1) (h2 : t ∉ L2) (hx : x.live = false) (hok : (⟨c.l.set i x, m⟩ : Ck).Ok)
    (h4 : PM (Nu F W3 w4) w4 a v1' v2' (c.l.set i x) (L1 ++ L2) m ∧ Chg F W3 w4) : Does F w a (.int .i64 E) ⟨c.l.set i x, m⟩ (.returned (.int .i64 E)) w4 := by
  subst hi
  have s1 := hb.size
  have s2 := hc.size
  have s3 := h4.2.size
  refine ⟨rfl, ⟨hok, v1', v2', _, hl.gone ht h1 h2 hx, h4.1.same (fun k hk => ?_) (fun k hk => ?_) (fun _ _ => rfl)⟩, ?_⟩
  · rcases hk with hk | hk
    · exact .inl hk
    · exact .inr ⟨by omega, hk.2⟩
  · rcases hk with hk | hk
    · have := h.lt k hk; omega
    · exact hk.2
  · exact (Chg.below hb).trans ((hc.trans (h4.2.mono (fun k hk => .inl hk))).mono (fun k hk => .inl hk))
theorem commit_yes (h : PC F w a c) (t : Int) (ht : c.isLive t = true) (hn : c.n ≤ 900000) (hlen : c.l.length ≤ 900000) :
    Calls Try.prog 24 #[.pointer (some ⟨a, 0, none⟩), .int .i64 t] w (Does F w a (.int .i64 0) (c.comS t)) := by
  have H := Lib.hid h
  have hok2 := Ck.com_ok h.ok t
  have e0 : c.comS t = ⟨c.l.set (t.toNat - 1) ⟨(c.tx t).mark, c.n + 1, false⟩, c.n + 1⟩ := by unfold Ck.comS; rw [if_pos ht]
  rw [e0] at hok2 ⊢
  have HV := isLive_any h t
  rw [ht] at HV
  have HV := Lib.hid HV
  obtain ⟨hok, v1, v2, L, hl, hm⟩ := h
  obtain ⟨L1, L2, rfl, hL1, hL2⟩ := hl.split ht
  have HT := Lib.hid ht
  have HM := Lib.hid hm
  have HL := Lib.hid hl
  have HO := Lib.hid hok2
  obtain ⟨p1, p2⟩ := Ck.live_has ht
  rcases has_split (c := c) (t := t) with ⟨_, k, ht1, hk, hx⟩ | ⟨p3, _⟩
  case inr => rw [p3] at p1; cases p1
  obtain rfl : t = (k : Int) + 1 := by omega
  rw [hx hk] at HO ⊢
  rw [hx hk] at p2
  have hkk : ((k : Int) + 1).toNat - 1 = k := by omega
  rw [hkk] at HO ⊢
  have hti : tc ⟨c.l[k].mark, c.n + 1, false⟩ = (tc c.l[k]).set 1 (.int .i64 ((c.n : Int) + 1)) := by
    simp [tc, abd, p2]
  have HTI := Lib.hid hti
  have HLn : Hid ((L1 ++ ((k : Int) + 1) :: L2).length ≤ 1000000) := by
    simp only [Hid]; rw [hl.len]; have := Ck.cnt_le c; omega
  have HKK := Lib.hid hkk
  clear hl hm ht hok hok2 p1 e0 hkk hti ht1
  go_enter Try.func24, Try.ntmps24
  go_wp2_with (go_at_call 52; (with_reducible refine HV.out.mono ?_); rintro e w1 ⟨rfl, hb1⟩; have HB1 := Lib.hid hb1; have hm1 := HM.out.below hb1; obtain ⟨k0, k1, k2, kf⟩ := hm1.cells; have HM1 := Lib.hid hm1; clear hm1 hb1)
  have hm2 : PM F (w1.setCell ⟨a, 2, none⟩ (.int .i64 ((c.n : Int) + 1))) a v1 v2 c.l (L1 ++ ((k : Int) + 1) :: L2) (c.n + 1) := HM1.out.setN (c.n + 1)
  have HC2 : Hid (Chg F w1 (w1.setCell ⟨a, 2, none⟩ (.int .i64 ((c.n : Int) + 1)))) := chg_set HM1.out.fa _ _
  clear k0 k1 k2 kf
  generalize w1.setCell ⟨a, 2, none⟩ (.int .i64 ((c.n : Int) + 1)) = W2 at *
  obtain ⟨k0, k1, k2, kf⟩ := hm2.cells
  obtain ⟨g, cp, rfl, hFg, r0, r1, r2, rf⟩ := hm2.row hk
  have hi5 : IntKind.i64.wrap (k : Int) = (k : Int) := wrapI (by omega)
  have HM2 := Lib.hid hm2
  have HFG := Lib.hid hFg
  have HM3 := Lib.hid (hm2.setTx hk (j := 1) (by omega) _ _ HTI.out)
  clear hm2 hFg HM HM1 HV hx p2
  go_wp2_with fail
  go_still_tail 10, (by kernel_rfl)
  change wpList _ _ _ _ _ W2.drew
  have HM4 := Lib.hid HM3.out.drew
  have HC4 : Hid (Chg F w1 (W2.setCell ⟨g, k * 3 + 1, none⟩ (.int .i64 ((c.n : Int) + 1))).drew) := HC2.out.trans (((chg_set (F := F) HFG.out (k * 3 + 1) (.int .i64 ((c.n : Int) + 1))).grown (grown_drew _ none) (fun k e => by cases e)).mono (fun k hk => .inl hk))
  clear HM3 HC2 HM2
  go_wp2_with fail
  generalize (W2.setCell ⟨g, k * 3 + 1, none⟩ (.int .i64 ((c.n : Int) + 1))).drew = W3 at *
  (with_reducible refine (end_any HM4.out ((k : Int) + 1) L1 L2 rfl hL1 hL2 HLn.out).mono ?_)
  rintro e w4 ⟨rfl, v', hp⟩
  clear k0 k1 k2 kf r0 r1 r2 rf
  go_wp2
  go_ret
  exact ended HKK.out H.out HB1.out HC4.out HL.out HT.out hL1 hL2 rfl HO.out hp
theorem commit_any (h : PC F w a c) (t : Int) (hn : c.n ≤ 900000) (hlen : c.l.length ≤ 900000) :
    Calls Try.prog 24 #[.pointer (some ⟨a, 0, none⟩), .int .i64 t] w (Does F w a (.int .i64 (c.endE t)) (c.comS t)) := by
  cases ht : c.isLive t with
  | true =>
    rw [show c.endE t = 0 by simp [Ck.endE, ht]]
    exact commit_yes h t ht hn hlen
  | false =>
    rw [show c.endE t = 5 by simp [Ck.endE, ht], show c.comS t = c by simp [Ck.comS, ht]]
    exact commit_no h t ht
theorem abort_yes (h : PC F w a c) (t : Int) (ht : c.isLive t = true) (hlen : c.l.length ≤ 900000) :
    Calls Try.prog 25 #[.pointer (some ⟨a, 0, none⟩), .int .i64 t] w (Does F w a (.int .i64 0) (c.abS t)) := by
  have H := Lib.hid h
  have hok2 := Ck.ab_ok h.ok t
  have e0 : c.abS t = ⟨c.l.set (t.toNat - 1) ⟨(c.tx t).mark, (c.tx t).com, false⟩, c.n⟩ := by unfold Ck.abS; rw [if_pos ht]
  rw [e0] at hok2 ⊢
  have HV := isLive_any h t
  rw [ht] at HV
  have HV := Lib.hid HV
  obtain ⟨hok, v1, v2, L, hl, hm⟩ := h
  obtain ⟨L1, L2, rfl, hL1, hL2⟩ := hl.split ht
  have HT := Lib.hid ht
  have HM := Lib.hid hm
  have HL := Lib.hid hl
  have HO := Lib.hid hok2
  obtain ⟨p1, p2⟩ := Ck.live_has ht
  have p0 := hok.fresh _ (Ck.tx_mem p1) p2
  rcases has_split (c := c) (t := t) with ⟨_, k, ht1, hk, hx⟩ | ⟨p3, _⟩
  case inr => rw [p3] at p1; cases p1
  obtain rfl : t = (k : Int) + 1 := by omega
  rw [hx hk] at HO ⊢
  rw [hx hk] at p2 p0
  have hkk : ((k : Int) + 1).toNat - 1 = k := by omega
  rw [hkk] at HO ⊢
  have hti : tc ⟨c.l[k].mark, c.l[k].com, false⟩ = (tc c.l[k]).set 2 (.bool true) := by
    simp [tc, abd, p0]
  have HTI := Lib.hid hti
  have HLn : Hid ((L1 ++ ((k : Int) + 1) :: L2).length ≤ 1000000) := by
    simp only [Hid]; rw [hl.len]; have := Ck.cnt_le c; omega
  have HKK := Lib.hid hkk
  clear hl hm ht hok hok2 p1 e0 hkk hti ht1
  go_enter Try.func25, Try.ntmps25
  go_wp2_with (first
    | (go_at_call 52; (with_reducible refine HV.out.mono ?_); rintro e w1 ⟨rfl, hb1⟩; have HB1 := Lib.hid hb1; have hm1 := HM.out.below hb1; obtain ⟨k0, k1, k2, kf⟩ := hm1.cells; obtain ⟨g, cp, rfl, hFg, r0, r1, r2, rf⟩ := hm1.row hk; have HFG := Lib.hid hFg; have HM3 := Lib.hid (hm1.setTx hk (j := 2) (by omega) _ _ HTI.out); have HC4 : Hid (Chg F w1 (w1.setCell ⟨g, k * 3 + 2, none⟩ (.bool true))) := chg_set HFG.out _ _; clear hm1 hb1 hFg)
    | (go_at_call 53; (with_reducible refine (end_any HM3.out ((k : Int) + 1) L1 L2 rfl hL1 hL2 HLn.out).mono ?_); rintro e w4 ⟨rfl, v', hp⟩))
  go_ret
  exact ended HKK.out H.out HB1.out HC4.out HL.out HT.out hL1 hL2 rfl HO.out hp
theorem abort_any (h : PC F w a c) (t : Int) (hlen : c.l.length ≤ 900000) :
    Calls Try.prog 25 #[.pointer (some ⟨a, 0, none⟩), .int .i64 t] w (Does F w a (.int .i64 (c.endE t)) (c.abS t)) := by
  cases ht : c.isLive t with
  | true =>
    rw [show c.endE t = 0 by simp [Ck.endE, ht]]
    exact abort_yes h t ht hlen
  | false =>
    rw [show c.endE t = 5 by simp [Ck.endE, ht], show c.abS t = c by simp [Ck.abS, ht]]
    exact abort_no h t ht
end
end Go.Proofs.Ytpjjpjdamieeeaa
