/- What Add of the program's Lists makes of it; Prog8 for the program's Lists. Conditions: the Lists lie in memory. -/
import Derived.Test.YtfmbogpbhchelaaTg
namespace Go.Proofs.Ytfmbogpbhchelaa
set_option maxRecDepth 100000
set_option linter.unusedVariables false
open Go.ChangeShapes Go.WideShapes Go.ChangeAt Go.RowKit
section
variable {F F0 S S' : Nat → Prop} {w wr w' : World} {a : Nat} {m1 m2 : Option Nat} {g g' : Gh} {KM KM' : List It} {KE KE' : List Int} {I : List It}
theorem padd_no (h : PL F w a I) (l i : Int) (hx : It.has I l i = true) : Calls Try.prog 10 #[pt a, .int .i64 l, .int .i64 i] w fun e w' => e = .returned (.bool false) ∧ w = w' := by
  have HH := phas_any h l i
  rw [hx] at HH
  have HH := Lib.hid HH
  clear h hx
  go_enter Try.func10, Try.ntmps10
  go_wp2_with (go_at_call 20; (with_reducible refine HH.out.mono ?_); rintro e w1 ⟨rfl, rfl⟩)
  go_ret
  exact ⟨rfl, rfl⟩
theorem map_isnil (W : World) (m : Option Nat) : (binOp .eql 41 (.map m) (.map none)).run Try.prog W = .ok (.bool m.isNone) W := by
  simp only [binOp]
  simp [run_equal_map_nil W 41 _ _ m undK]
theorem LS.drew (h : LS F0 w wr a m1 m2 g KM KE S) : LS F0 w wr.drew a m1 m2 g KM KE S := ⟨⟨h.1.lt, h.1.fa, h.1.f1, h.1.f2, h.1.fb, h.1.both, h.1.ne, h.1.blk, h.1.p1, h.1.p2, h.1.nd⟩, h.2.grown (grown_drew _ none) (fun k e => by cases e)⟩
theorem ND.fresh {nx pv : Nat → Nat} {idf : Nat → Int} (h : ND S wr nx pv idf) (hb : Below wr.heap.size wr w') (hn : w'.heap[wr.heap.size]? = some (.cells (nc 0 wr.heap.size wr.heap.size) 54 (0, 0))) : ND (fun k => S k ∨ k = wr.heap.size) w' (up nx wr.heap.size wr.heap.size) (up pv wr.heap.size wr.heap.size) (up idf wr.heap.size 0) := fun k hk => by
  by_cases e : k = wr.heap.size
  · subst e
    rw [up_same, up_same, up_same]
    exact hn
  · have hS := hk.resolve_right e
    rw [up_ne e, up_ne e, up_ne e, hb.block k (h.lt hS)]
    exact h k hS
/-- New ends have been made. -/
theorem LS.ends (h : LS F0 w wr a m1 m2 g KM KE S) (h0 : ∀ k, F0 k → k < w.heap.size) {l : Int} (hl : l ∉ KE) (hb : Below wr.heap.size wr w') (hn : w'.heap[wr.heap.size]? = some (.cells (nc 0 wr.heap.size wr.heap.size) 54 (0, 0))) : LS F0 w w' a m1 m2 (g.ends l wr.heap.size) KM KE (fun k => S k ∨ k = wr.heap.size) :=
  h.nodes (g' := g.ends l wr.heap.size) h0 (h.1.nd.fresh hb hn) (Chg.below hb) (fun b hb => by rcases hb with h1 | h1; exact .inl h1; exact .inr (by omega)) (fun _ _ => rfl) (fun k hk => up_ne (fun e => hl (e ▸ hk)))
/-- A link has been put behind the ends of its list. -/
theorem LS.ins (h : LS F0 w wr a m1 m2 g KM KE S) (h0 : ∀ k, F0 k → k < w.heap.size) {l i : Int} (hx : (⟨l, i⟩ : It) ∉ KM) (hn : ND (fun k => S k ∨ k = wr.heap.size) w' (up (up g.nx wr.heap.size (g.nx (g.en l))) (g.en l) wr.heap.size) (up (up g.pv wr.heap.size (g.en l)) (g.nx (g.en l)) wr.heap.size) (up g.idf wr.heap.size i)) (hc : Chg S wr w') : LS F0 w w' a m1 m2 (g.ins ⟨l, i⟩ wr.heap.size) KM KE (fun k => S k ∨ k = wr.heap.size) :=
  h.nodes (g' := g.ins ⟨l, i⟩ wr.heap.size) h0 hn hc (fun b hb => by rcases hb with h1 | h1; exact .inl h1; exact .inr (by omega)) (fun k hk => up_ne (fun e => hx (e ▸ hk))) (fun _ _ => rfl)
/-- What Add returns, once the list has its ends: from region 7 on. -/
def AddEnd (F0 : Nat → Prop) (w : World) (a : Nat) (I : List It) (l i : Int) (w' : World) : Prop := PL (Nu F0 w w') w' a (It.add I l i) ∧ Chg F0 w w'
theorem add_end {b1 y : Nat} {l i : Int} (h : LS F0 w wr a (some b1) m2 (g.ins ⟨l, i⟩ y) (KM ++ [⟨l, i⟩]) KE (fun k => S k ∨ k = y)) (hi : Inv g KM KE I) (hS : ∀ b, Bl g KE I b → S b) (hy : ¬ Bl g KE I y) (hl : l ∈ KE) (hx : It.has I l i = false) (hf : ∀ m, m ∈ KE → m = l ∨ ∃ z, z ∈ I ∧ z.l = m) : AddEnd F0 w a I l i wr := by
  have hxI : (⟨l, i⟩ : It) ∉ I := fun h => by rw [It.has_iff.2 h] at hx; cases hx
  have e : It.add I l i = ⟨l, i⟩ :: I := by unfold It.add; rw [hx]; rfl
  refine ⟨?_, h.2⟩
  rw [e]
  have hv := hi.ins (x := ⟨l, i⟩) hl hxI hy
  refine ⟨_, _, _, _, _, h.1.lm hv (fun b hb => ?_), fun m hm => ?_⟩
  · rcases hb with ⟨z, h1, h2⟩ | ⟨m, h1, h2⟩
    · rcases List.mem_cons.1 h1 with e1 | h1
      · exact .inr (by rw [h2, e1]; exact up_same)
      · have e2 : (g.ins ⟨l, i⟩ y).blk z = g.blk z := up_ne (fun e1 => hxI (e1 ▸ h1))
        exact .inl (hS b (.inl ⟨z, h1, by rw [h2, e2]⟩))
    · exact .inl (hS b (.inr ⟨m, h1, h2⟩))
  · rcases hf m hm with e1 | ⟨z, h1, h2⟩
    · exact ⟨⟨l, i⟩, by simp, e1.symm⟩
    · exact ⟨z, by simp [h1], h2⟩
theorem made_world (hA : a < w.heap.size) (hb : w.heap[a]? = some (.cells #[.map none, .map none] 44 (0, 0))) : Chg (fun k => k = a) w ((((w.alloc (.map #[] 0)).alloc (.map #[] 0)).setCell ⟨a, 0, none⟩ (.map (some w.heap.size))).setCell ⟨a, 1, none⟩ (.map (some (w.heap.size + 1)))) ∧ ((((w.alloc (.map #[] 0)).alloc (.map #[] 0)).setCell ⟨a, 0, none⟩ (.map (some w.heap.size))).setCell ⟨a, 1, none⟩ (.map (some (w.heap.size + 1)))).heap[w.heap.size]? = some (.map #[] 0) ∧ ((((w.alloc (.map #[] 0)).alloc (.map #[] 0)).setCell ⟨a, 0, none⟩ (.map (some w.heap.size))).setCell ⟨a, 1, none⟩ (.map (some (w.heap.size + 1)))).heap[w.heap.size + 1]? = some (.map #[] 0) ∧ ((((w.alloc (.map #[] 0)).alloc (.map #[] 0)).setCell ⟨a, 0, none⟩ (.map (some w.heap.size))).setCell ⟨a, 1, none⟩ (.map (some (w.heap.size + 1)))).heap[a]? = some (.cells #[.map (some w.heap.size), .map (some (w.heap.size + 1))] 44 (0, 0)) := by
  have hB : Below w.heap.size w ((w.alloc (.map #[] 0)).alloc (.map #[] 0)) := ((Below.refl w.heap.size w).alloc (Nat.le_refl _) (.map #[] 0)).alloc (by simp) (.map #[] 0)
  have h1 : ((w.alloc (.map #[] 0)).alloc (.map #[] 0)).heap[w.heap.size]? = some (.map #[] 0) := by
    have hB2 := (Below.refl (w.alloc (.map #[] 0)).heap.size (w.alloc (.map #[] 0))).alloc (Nat.le_refl _) (.map #[] 0)
    rw [hB2.block w.heap.size (by simp)]
    exact (MapKept.heap_alloc w _).1
  have h2 : ((w.alloc (.map #[] 0)).alloc (.map #[] 0)).heap[w.heap.size + 1]? = some (.map #[] 0) := by
    have := (MapKept.heap_alloc (w.alloc (.map #[] 0)) (.map #[] 0)).1
    simpa using this
  have ha := (hB.block a hA).trans hb
  generalize (w.alloc (.map #[] 0)).alloc (.map #[] 0) = W at *
  have hc1 := heap_setCell_same W a 0 _ _ (.map (some w.heap.size)) ha
  have hc2 := heap_setCell_same _ a 1 _ _ (.map (some (w.heap.size + 1))) hc1
  refine ⟨((Chg.below hB).grown (grown_set W a 0 _) (fun k e => by injection e with e; exact .inl e.symm)).grown (grown_set _ a 1 _) (fun k e => by injection e with e; exact .inl e.symm), ?_, ?_, ?_⟩
  · rw [heap_setCell_other _ ⟨a, 1, none⟩ _ _ (show w.heap.size ≠ a by omega), heap_setCell_other _ ⟨a, 0, none⟩ _ _ (show w.heap.size ≠ a by omega)]; exact h1
  · rw [heap_setCell_other _ ⟨a, 1, none⟩ _ _ (show w.heap.size + 1 ≠ a by omega), heap_setCell_other _ ⟨a, 0, none⟩ _ _ (show w.heap.size + 1 ≠ a by omega)]; exact h2
  · rw [hc2]; rfl
set_option maxHeartbeats 1000000 in
theorem padd_in (h : LM F w a m1 m2 g KM KE I) (hf : ∀ l, l ∈ KE → ∃ x, x ∈ I ∧ x.l = l) (l i : Int) (hx : It.has I l i = false) (hl : l ∈ KE) : Calls Try.prog 10 #[pt a, .int .i64 l, .int .i64 i] w fun e w' => e = .returned (.bool true) ∧ AddEnd F w a I l i w' := by
  have HH := phas_lm h l i
  rw [hx] at HH
  have HH := Lib.hid HH
  obtain ⟨z, hz, _⟩ := hf l hl
  obtain ⟨b1, b2, rfl, rfl⟩ := h.some hz
  have H0 := Lib.hid h.lt
  have HKM := Lib.hid (show (⟨l, i⟩ : It) ∉ KM from fun hm => by rw [It.has_iff.2 ((h.inv.km _).1 hm)] at hx; cases hx)
  have HI := Lib.hid h.inv
  have HF := Lib.hid (show ∀ m, m ∈ KE → m = l ∨ ∃ z, z ∈ I ∧ z.l = m from fun m hm => .inr (hf m hm))
  have HX := Lib.hid hx
  have HL := Lib.hid hl
  have HS0 := Lib.hid h.ls
  have HSB := Lib.hid (show ∀ b, Bl g KE I b → Bl g KE I b from fun _ h => h)
  have hlk0 := h.ls.looks l
  rw [if_pos hl] at hlk0
  have hmn := map_isnil w (some b1)
  clear h hx hl hf hz
  have HS := Lib.hid HS0.out.drew
  have HEN := Lib.hid (HSB.out (g.en l) (.inr ⟨l, HL.out, rfl⟩))
  have HNX := Lib.hid (HSB.out _ (HI.out.nx_bl (.inr ⟨l, HL.out, rfl⟩)))
  have HR := Lib.hid (insert_any HS.out.1.nd HEN.out HNX.out i)
  have HY := Lib.hid (show ¬ Bl g KE I w.heap.size from fun hb => by have := HS0.out.1.nd.lt (HSB.out _ hb); omega)
  obtain ⟨k0, k1, kf⟩ := HS0.out.1.cells
  have hlk := HS.out.looks l
  rw [if_pos HL.out] at hlk
  go_enter Try.func10, Try.ntmps10
  go_upto_region 7 with (go_at_call 20; (with_reducible refine HH.out.mono ?_); rintro e w1 ⟨rfl, rfl⟩)
  go_region_with (go_at_call 23; (with_reducible refine HR.out.mono ?_); rintro e w4 ⟨rfl, hnd, hc, hz⟩; have HS4 := Lib.hid (HS.out.ins H0.out HKM.out hnd hc); clear hnd hc hz; obtain ⟨j0, j1, jf⟩ := HS4.out.1.cells; obtain ⟨w5, hrun, hmp, hgr⟩ := HS4.out.1.p1.store finds_it undK ⟨l, i⟩ HKM.out (g.ins ⟨l, i⟩ w.heap.size).blk (fun _ _ => rfl) w.heap.size up_same; have HS5 := Lib.hid (HS4.out.links (g' := g.ins ⟨l, i⟩ w.heap.size) H0.out hmp hgr (fun _ _ => rfl) rfl rfl rfl rfl); clear hmp hgr; have hrun2 : (Instr.mapUpdate 41 (.map (some b1)) (.agg #[.int .i64 l, .int .i64 i]) (pt w.heap.size)).run Try.prog w4 = .ok () w5 := hrun; clear hrun)
  all_goals (
    clear k0 k1 kf hlk j0 j1 jf hrun2
    go_wp2
    go_ret
    exact ⟨rfl, add_end (b1 := b1) (y := w.heap.size) HS5.out HI.out HSB.out HY.out HL.out HX.out HF.out⟩)
set_option maxHeartbeats 2000000 in
theorem padd_out {b1 b2 : Nat} (h : LM F w a (some b1) (some b2) g KM KE I) (hf : ∀ l, l ∈ KE → ∃ x, x ∈ I ∧ x.l = l) (l i : Int) (hx : It.has I l i = false) (hl : l ∉ KE) : Calls Try.prog 10 #[pt a, .int .i64 l, .int .i64 i] w fun e w' => e = .returned (.bool true) ∧ AddEnd F w a I l i w' := by
  have HH := phas_lm h l i
  rw [hx] at HH
  have HH := Lib.hid HH
  have H0 := Lib.hid h.lt
  have HKM := Lib.hid (show (⟨l, i⟩ : It) ∉ KM from fun hm => by rw [It.has_iff.2 ((h.inv.km _).1 hm)] at hx; cases hx)
  have HI0 := Lib.hid h.inv
  have HF0 := Lib.hid hf
  have HX := Lib.hid hx
  have HNL := Lib.hid hl
  obtain ⟨S, HSB0, HS0⟩ : ∃ S, Hid (∀ b, Bl g KE I b → S b) ∧ Hid (LS F w w a (some b1) (some b2) g KM KE S) := ⟨Bl g KE I, Lib.hid (fun _ h => h), Lib.hid h.ls⟩
  have hmn := map_isnil w (some b1)
  clear h hx hl hf
  obtain ⟨k0, k1, kf⟩ := HS0.out.1.cells
  have hlk := HS0.out.looks l
  rw [if_neg HNL.out] at hlk
  go_enter Try.func10, Try.ntmps10
  go_upto_region 5 with (go_at_call 20; (with_reducible refine HH.out.mono ?_); rintro e w1 ⟨rfl, rfl⟩)
  have HSD := Lib.hid HS0.out.drew
  go_wp2_with fail
  go_region_with (go_at_call 22; (with_reducible refine (newEnds_any _).mono ?_); rintro e w2 ⟨rfl, hnb, hb2, hz2⟩; have HB2 := Lib.hid hb2; have HS2 := Lib.hid (HSD.out.ends H0.out HNL.out hb2 hnb); clear hnb hb2 hz2; obtain ⟨j0, j1, jf⟩ := HS2.out.1.cells; obtain ⟨w3, hrun, hmp, hgr⟩ := HS2.out.1.p2.store finds_int undM l HNL.out (g.ends l w.heap.size).en (fun _ _ => rfl) w.heap.size up_same; have HS3 := Lib.hid (HS2.out.endings (g' := g.ends l w.heap.size) H0.out hmp hgr (fun _ _ => rfl) rfl rfl rfl rfl); clear hmp hgr; have hrun2 : (Instr.mapUpdate 42 (.map (some b2)) (.int .i64 l) (pt w.heap.size)).run Try.prog w2 = .ok () w3 := hrun; clear hrun)
  all_goals (
    clear k0 k1 kf hlk j0 j1 jf hrun2 HS2 HB2 HSD
    have HY0 := Lib.hid (show ¬ Bl g KE I w.heap.size from fun hb => by have := HS0.out.1.nd.lt (HSB0.out _ hb); omega)
    have HI := Lib.hid (HI0.out.ends HNL.out HY0.out)
    have HSB := Lib.hid (show ∀ b, Bl (g.ends l w.heap.size) (KE ++ [l]) I b → S b ∨ b = w.heap.size from fun b hb => by
      rcases hb with h1 | ⟨m, h1, h2⟩
      · exact .inl (HSB0.out b (.inl h1))
      · by_cases e : m = l
        · exact .inr (by rw [h2, e]; exact up_same)
        · have h3 : m ∈ KE := by
            rcases List.mem_append.1 h1 with h3 | h3
            · exact h3
            · exact absurd (List.mem_singleton.1 h3) e
          exact .inl (HSB0.out b (.inr ⟨m, h3, by rw [h2]; exact up_ne e⟩)))
    have HL := Lib.hid (show l ∈ KE ++ [l] by simp)
    have HF := Lib.hid (show ∀ m, m ∈ KE ++ [l] → m = l ∨ ∃ z, z ∈ I ∧ z.l = m from fun m hm => by
      rcases List.mem_append.1 hm with h3 | h3
      · exact .inr (HF0.out m h3)
      · exact .inl (List.mem_singleton.1 h3))
    have HS9 : Hid (LS F w w3 a (some b1) (some b2) (g.ends l w.heap.size) KM (KE ++ [l]) (fun k => S k ∨ k = w.heap.size)) := HS3
    clear HS3 HI0 HSB0 HF0 HY0 HNL HS0
    have HS0 := HS9
    clear HS9
    have HSB1 : Hid (∀ b, Bl (g.ends l w.heap.size) (KE ++ [l]) I b → (fun k => S k ∨ k = w.heap.size) b) := HSB
    clear HSB
    have HSB := HSB1
    clear HSB1
    generalize (fun k => S k ∨ k = w.heap.size) = S2 at *
    generalize g.ends l w.heap.size = g2 at *
    generalize KE ++ [l] = KE2 at *
    have HS := Lib.hid HS0.out.drew
    have HEN := Lib.hid (HSB.out (g2.en l) (.inr ⟨l, HL.out, rfl⟩))
    have HNX := Lib.hid (HSB.out _ (HI.out.nx_bl (.inr ⟨l, HL.out, rfl⟩)))
    have HR := Lib.hid (insert_any HS.out.1.nd HEN.out HNX.out i)
    have HY := Lib.hid (show ¬ Bl g2 KE2 I w3.heap.size from fun hb => by have := HS0.out.1.nd.lt (HSB.out _ hb); omega)
    obtain ⟨k0, k1, kf⟩ := HS0.out.1.cells
    have hlk := HS.out.looks l
    rw [if_pos HL.out] at hlk
    go_upto_region 7 with fail
    go_region_with (go_at_call 23; (with_reducible refine HR.out.mono ?_); rintro e w4 ⟨rfl, hnd, hc, hz⟩; have HS4 := Lib.hid (HS.out.ins H0.out HKM.out hnd hc); clear hnd hc hz; obtain ⟨j0, j1, jf⟩ := HS4.out.1.cells; obtain ⟨w5, hrun, hmp, hgr⟩ := HS4.out.1.p1.store finds_it undK ⟨l, i⟩ HKM.out (g2.ins ⟨l, i⟩ w3.heap.size).blk (fun _ _ => rfl) w3.heap.size up_same; have HS5 := Lib.hid (HS4.out.links (g' := g2.ins ⟨l, i⟩ w3.heap.size) H0.out hmp hgr (fun _ _ => rfl) rfl rfl rfl rfl); clear hmp hgr; have hrun2 : (Instr.mapUpdate 41 (.map (some b1)) (.agg #[.int .i64 l, .int .i64 i]) (pt w3.heap.size)).run Try.prog w4 = .ok () w5 := hrun; clear hrun)
    all_goals (
      clear k0 k1 kf hlk j0 j1 jf hrun2
      go_wp2
      go_ret
      exact ⟨rfl, add_end (b1 := b1) (y := w3.heap.size) HS5.out HI.out HSB.out HY.out HL.out HX.out HF.out⟩))
set_option maxHeartbeats 2000000 in
theorem padd_new (h : LM F w a none none g KM KE I) (hf : ∀ l, l ∈ KE → ∃ x, x ∈ I ∧ x.l = l) (l i : Int) (hx : It.has I l i = false) : Calls Try.prog 10 #[pt a, .int .i64 l, .int .i64 i] w fun e w' => e = .returned (.bool true) ∧ AddEnd F w a I l i w' := by
  have HH := phas_lm h l i
  rw [hx] at HH
  have HH := Lib.hid HH
  have H0 := Lib.hid h.lt
  have HKM := Lib.hid (show (⟨l, i⟩ : It) ∉ KM from fun hm => by rw [It.has_iff.2 ((h.inv.km _).1 hm)] at hx; cases hx)
  have HI0 := Lib.hid h.inv
  have HF0 := Lib.hid hf
  have HX := Lib.hid hx
  have HNL := Lib.hid (show l ∉ KE from fun hm => by have e : KE = [] := h.p2; subst e; cases hm)
  obtain ⟨S, HSB0, HS9⟩ : ∃ S, Hid (∀ b, Bl g KE I b → S b) ∧ Hid (LS F w w a none none g KM KE S) := ⟨Bl g KE I, Lib.hid (fun _ h => h), Lib.hid h.ls⟩
  have hmn := map_isnil w none
  have HA := Lib.hid (h.lt a h.fa)
  have HBK := Lib.hid h.blk
  clear h hx hf
  have hmm1 := run_makeMap (P := Try.prog) 41
  have hmm2 := run_makeMap (P := Try.prog) 42
  have HB := Lib.hid (((Below.refl w.heap.size w).alloc (Nat.le_refl _) (.map #[] 0)).alloc (by simp) (.map #[] 0))
  obtain ⟨k0, k1, kf⟩ := HS9.out.1.cells
  have j0 := (HB.out.cell (p := ⟨a, 0, none⟩) HA.out).trans k0
  have j1 := (HB.out.cell (p := ⟨a, 1, none⟩) HA.out).trans k1
  have jf : ∀ o, ((w.alloc (.map #[] 0)).alloc (.map #[] 0)).frozen? ⟨a, o, none⟩ = false := fun o => (HB.out.frozen (p := ⟨a, o, none⟩) HA.out).trans (kf o)
  go_enter Try.func10, Try.ntmps10
  go_upto_region 5 with (go_at_call 20; (with_reducible refine HH.out.mono ?_); rintro e w1 ⟨rfl, rfl⟩)
  have HS0 := Lib.hid (made_world HA.out HBK.out)
  have HS0 := Lib.hid (HS9.out.made H0.out HS0.out.1 HS0.out.2.1 HS0.out.2.2.1 (Nat.le_refl _) (Nat.le_succ _) (by omega) HS0.out.2.2.2)
  clear k0 k1 kf j0 j1 jf HS9 hmm1 hmm2 hmn HA HBK HB
  generalize (((w.alloc (.map #[] 0)).alloc (.map #[] 0)).setCell ⟨a, 0, none⟩ (.map (some w.heap.size))).setCell ⟨a, 1, none⟩ (.map (some (w.heap.size + 1))) = V at *
  generalize hb1 : w.heap.size = b1 at HS0 ⊢
  have HH1 := Lib.hid hb1
  clear hb1
  obtain ⟨k0, k1, kf⟩ := HS0.out.1.cells
  have hlk := HS0.out.looks l
  rw [if_neg HNL.out] at hlk
  have HSD := Lib.hid HS0.out.drew
  go_wp2_with fail
  go_region_with (go_at_call 22; (with_reducible refine (newEnds_any _).mono ?_); rintro e w2 ⟨rfl, hnb, hb2, hz2⟩; have HB2 := Lib.hid hb2; have HS2 := Lib.hid (HSD.out.ends H0.out HNL.out hb2 hnb); clear hnb hb2 hz2; obtain ⟨j0, j1, jf⟩ := HS2.out.1.cells; obtain ⟨w3, hrun, hmp, hgr⟩ := HS2.out.1.p2.store finds_int undM l HNL.out (g.ends l V.heap.size).en (fun _ _ => rfl) V.heap.size up_same; have HS3 := Lib.hid (HS2.out.endings (g' := g.ends l V.heap.size) H0.out hmp hgr (fun _ _ => rfl) rfl rfl rfl rfl); clear hmp hgr; have hrun2 : (Instr.mapUpdate 42 (.map (some (b1 + 1))) (.int .i64 l) (pt V.heap.size)).run Try.prog w2 = .ok () w3 := hrun; clear hrun)
  all_goals (
    clear k0 k1 kf hlk j0 j1 jf hrun2 HS2 HB2 HSD
    have HY0 := Lib.hid (show ¬ Bl g KE I V.heap.size from fun hb => by have := HS0.out.1.nd.lt (HSB0.out _ hb); omega)
    have HI := Lib.hid (HI0.out.ends HNL.out HY0.out)
    have HSB := Lib.hid (show ∀ b, Bl (g.ends l V.heap.size) (KE ++ [l]) I b → S b ∨ b = V.heap.size from fun b hb => by
      rcases hb with h1 | ⟨m, h1, h2⟩
      · exact .inl (HSB0.out b (.inl h1))
      · by_cases e : m = l
        · exact .inr (by rw [h2, e]; exact up_same)
        · have h3 : m ∈ KE := by
            rcases List.mem_append.1 h1 with h3 | h3
            · exact h3
            · exact absurd (List.mem_singleton.1 h3) e
          exact .inl (HSB0.out b (.inr ⟨m, h3, by rw [h2]; exact up_ne e⟩)))
    have HL := Lib.hid (show l ∈ KE ++ [l] by simp)
    have HF := Lib.hid (show ∀ m, m ∈ KE ++ [l] → m = l ∨ ∃ z, z ∈ I ∧ z.l = m from fun m hm => by
      rcases List.mem_append.1 hm with h3 | h3
      · exact .inr (HF0.out m h3)
      · exact .inl (List.mem_singleton.1 h3))
    have HS9 : Hid (LS F w w3 a (some b1) (some (b1 + 1)) (g.ends l V.heap.size) KM (KE ++ [l]) (fun k => S k ∨ k = V.heap.size)) := HS3
    clear HS3 HI0 HSB0 HF0 HY0 HNL HS0
    have HS0 := HS9
    clear HS9
    have HSB1 : Hid (∀ b, Bl (g.ends l V.heap.size) (KE ++ [l]) I b → (fun k => S k ∨ k = V.heap.size) b) := HSB
    clear HSB
    have HSB := HSB1
    clear HSB1
    generalize (fun k => S k ∨ k = V.heap.size) = S2 at *
    generalize g.ends l V.heap.size = g2 at *
    generalize KE ++ [l] = KE2 at *
    have HS := Lib.hid HS0.out.drew
    have HEN := Lib.hid (HSB.out (g2.en l) (.inr ⟨l, HL.out, rfl⟩))
    have HNX := Lib.hid (HSB.out _ (HI.out.nx_bl (.inr ⟨l, HL.out, rfl⟩)))
    have HR := Lib.hid (insert_any HS.out.1.nd HEN.out HNX.out i)
    have HY := Lib.hid (show ¬ Bl g2 KE2 I w3.heap.size from fun hb => by have := HS0.out.1.nd.lt (HSB.out _ hb); omega)
    obtain ⟨k0, k1, kf⟩ := HS0.out.1.cells
    have hlk := HS.out.looks l
    rw [if_pos HL.out] at hlk
    go_upto_region 7 with fail
    go_region_with (go_at_call 23; (with_reducible refine HR.out.mono ?_); rintro e w4 ⟨rfl, hnd, hc, hz⟩; have HS4 := Lib.hid (HS.out.ins H0.out HKM.out hnd hc); clear hnd hc hz; obtain ⟨j0, j1, jf⟩ := HS4.out.1.cells; obtain ⟨w5, hrun, hmp, hgr⟩ := HS4.out.1.p1.store finds_it undK ⟨l, i⟩ HKM.out (g2.ins ⟨l, i⟩ w3.heap.size).blk (fun _ _ => rfl) w3.heap.size up_same; have HS5 := Lib.hid (HS4.out.links (g' := g2.ins ⟨l, i⟩ w3.heap.size) H0.out hmp hgr (fun _ _ => rfl) rfl rfl rfl rfl); clear hmp hgr; have hrun2 : (Instr.mapUpdate 41 (.map (some b1)) (.agg #[.int .i64 l, .int .i64 i]) (pt w3.heap.size)).run Try.prog w4 = .ok () w5 := hrun; clear hrun)
    all_goals (
      clear k0 k1 kf hlk j0 j1 jf hrun2
      go_wp2
      go_ret
      exact ⟨rfl, add_end (b1 := b1) (y := w3.heap.size) HS5.out HI.out HSB.out HY.out HL.out HX.out HF.out⟩))
theorem padd_yes (h : PL F w a I) (l i : Int) (hx : It.has I l i = false) : Calls Try.prog 10 #[pt a, .int .i64 l, .int .i64 i] w fun e w' => e = .returned (.bool true) ∧ AddEnd F w a I l i w' := by
  obtain ⟨m1, m2, g, KM, KE, h, hf⟩ := h
  cases m1 with
  | none =>
    cases m2 with
    | none => exact padd_new h hf l i hx
    | some b2 => have := h.both; cases this
  | some b1 =>
    cases m2 with
    | none => have := h.both; cases this
    | some b2 =>
      by_cases hl : l ∈ KE
      · exact padd_in h hf l i hx hl
      · exact padd_out h hf l i hx hl
theorem pl_nu (h : PL F w a I) : PL (Nu F w w) w a I := pl_same h (fun k hk => .inl hk) (fun k hk => by rcases hk with h1 | h1; exact pl_lt h k h1; exact h1.2) (fun _ _ => rfl)
theorem prog8 : Prog8 PL where
  same := pl_same
  lt := pl_lt
  new := pnew_any
  add := fun {F w a I} h l i _ => by
    cases hx : It.has I l i with
    | false =>
      refine (padd_yes h l i hx).mono ?_
      rintro e w' ⟨rfl, h1, h2⟩
      exact ⟨rfl, h1, h2⟩
    | true =>
      refine (padd_no h l i hx).mono ?_
      rintro e w' ⟨rfl, rfl⟩
      have e1 : It.add I l i = I := by unfold It.add; rw [hx]; rfl
      rw [e1]
      exact ⟨rfl, pl_nu h, Chg.refl _ _⟩
  cut := fun {F w a I} h l i _ => by
    cases hx : It.has I l i with
    | true =>
      refine (pcut_yes h l i hx).mono ?_
      rintro e w' ⟨rfl, h1, h2⟩
      exact ⟨rfl, h1, h2⟩
    | false =>
      refine (pcut_no h l i hx).mono ?_
      rintro e w' ⟨rfl, rfl⟩
      have e1 : It.cut I l i = I := by
        unfold It.cut
        exact List.erase_of_not_mem (fun hm => by rw [It.has_iff.2 hm] at hx; cases hx)
      rw [e1]
      exact ⟨rfl, pl_nu h, Chg.refl _ _⟩
  walk := pl_walk
  back := pl_back
  has := fun h l i _ => (phas_any h l i).mono fun e w' ⟨h1, h2⟩ => ⟨h1, by subst h2; exact Below.refl _ _⟩
  len := fun h _ => (plen_any h).mono fun e w' ⟨h1, h2⟩ => ⟨h1, by subst h2; exact Below.refl _ _⟩
  addN := fun w l i => (paddN w l i).mono fun e w' ⟨h1, h2⟩ => ⟨h1, by subst h2; exact Below.refl _ _⟩
  cutN := fun w l i => (pcutN w l i).mono fun e w' ⟨h1, h2⟩ => ⟨h1, by subst h2; exact Below.refl _ _⟩
  hasN := fun w l i => (phasN w l i).mono fun e w' ⟨h1, h2⟩ => ⟨h1, by subst h2; exact Below.refl _ _⟩
  walkN := pl_walkN
  backN := pl_backN
  lenN := fun w => (plenN w).mono fun e w' ⟨h1, h2⟩ => ⟨h1, by subst h2; exact Below.refl _ _⟩
end
end Go.Proofs.Ytfmbogpbhchelaa
