/- What New of the reference does. No condition. -/
import Derived.Test.YtembonenaoineaaRg
namespace Go.Proofs.Ytembonenaoineaa
set_option maxRecDepth 100000
set_option linter.unusedVariables false
open Go.ChangeShapes Go.WideShapes Go.ChangeAt Go.RowKit
theorem own_lt {w : World} {e size n : Nat} {v : Value} {xs : List Value} (h : w.ownsRow 0 e size v n xs) {k : Nat} (hk : v.ownBlock = some k) : k < w.heap.size := by
  obtain ⟨cur, h1⟩ := own_type h hk
  exact block_lt h1
theorem rnew_step {w w2 w3 : World} {b g cap k : Nat} {sv : Value} (hbk : w2.heap[b]? = some (.cells #[.slice none 0 0, sv, .slice none 0 0, .int .i64 (-1), .bool false] 67 (0, 0)))
    (hb2 : Below w.heap.size w w2) (hwb : w.heap.size ≤ b) (hgr : (w2.alloc (.cells #[stc (pad [])] 9)).grownBy w3 sv.ownBlock) (hnb : some b ≠ sv.ownBlock) (hV : ∀ j, sv.ownBlock = some j → w.heap.size ≤ j)
    (ho : w3.ownsRow 0 9 1 (.slice (some ⟨g, 0, none⟩) (k + 1) cap) (k + 1) ((List.replicate k zsec).map stc ++ [stc (pad [])])) (hat : sv.ownBlock = some g ∨ g = (w2.alloc (.cells #[stc (pad [])] 9)).heap.size) :
    (w3.setCell ⟨b, 1, none⟩ (.slice (some ⟨g, 0, none⟩) (k + 1) cap)).heap[b]? = some (.cells #[.slice none 0 0, .slice (some ⟨g, 0, none⟩) (k + 1) cap, .slice none 0 0, .int .i64 (-1), .bool false] 67 (0, 0)) ∧
    (w3.setCell ⟨b, 1, none⟩ (.slice (some ⟨g, 0, none⟩) (k + 1) cap)).ownsRow 0 9 1 (.slice (some ⟨g, 0, none⟩) (k + 1) cap) (k + 1) ((List.replicate (k + 1) zsec).map stc) ∧
    (∀ j, (Value.slice (some ⟨g, 0, none⟩) (k + 1) cap).ownBlock = some j → w.heap.size ≤ j) ∧ Below w.heap.size w (w3.setCell ⟨b, 1, none⟩ (.slice (some ⟨g, 0, none⟩) (k + 1) cap)) := by
  have hz2 := hb2.size
  have hbl := block_lt hbk
  have hsz : (w2.alloc (.cells #[stc (pad [])] 9)).heap.size = w2.heap.size + 1 := by simp
  have hb3 : w3.heap[b]? = _ := (hgr.block b (by omega) hnb).trans ((Below.heap_alloc w2 _ b hbl).trans hbk)
  have hgb : g ≠ b := by
    rcases hat with hat | hat
    · intro e; subst e; exact hnb hat.symm
    · omega
  refine ⟨heap_setCell_same w3 b 1 _ _ _ hb3, ?_, ?_, ?_⟩
  · rw [List.replicate_succ', List.map_append]
    exact ownsRow_setCell_other ho (by simp only [Value.ownBlock]; intro e; injection e with e; exact hgb e) _
  · intro j e
    simp [Value.ownBlock] at e
    subst e
    rcases hat with hat | hat
    · exact hV _ hat
    · omega
  · exact ((hb2.alloc hz2 _).grown hgr (by omega) hV).setCell (p := ⟨b, 1, none⟩) hwb _
set_option maxRecDepth 100000 in
set_option maxHeartbeats 1000000 in
theorem rnew_any (n : Int) (hn0 : -9223372036854775808 ≤ n) (hn1 : n ≤ 9223372036854775807) (w : World) : Calls Try.prog 12 #[.int .i64 n] w fun e w' => ∃ b, e = .returned (.pointer (some ⟨b, 0, none⟩)) ∧ RD (Nu (fun _ => False) w w') w' b (nwS n) ∧ Below w.heap.size w w' := by
  have hm : many n ≤ 200 := by unfold many; omega
  have hmn : ∀ k : Nat, k < many n ↔ ((k : Int) < n ∧ (k : Int) < 200) := fun k => by unfold many; omega
  obtain ⟨i0, hi0, hz0, hz1, hz2⟩ := info_parts infoT
  go_enter Try.func12, Try.ntmps12
  go_wp2
  go_loopw [4] (fun i wr => ∃ (k : Nat) (sv : Value), k ≤ many n ∧ i = .int .i64 k ∧ Hid (wr.heap[w.heap.size]? = some (.cells #[.slice none 0 0, sv, .slice none 0 0, .int .i64 (-1), .bool false] 67 (0, 0))) ∧ Hid (wr.ownsRow 0 9 1 sv k ((List.replicate k zsec).map stc)) ∧ Hid (∀ j, sv.ownBlock = some j → w.heap.size ≤ j) ∧ Hid (Below w.heap.size w wr)) (fun i _ => many n - (intOf i).toNat)
  case atStart => exact ⟨0, .slice none 0 0, Nat.zero_le _, rfl, heap_alloc_new w _, World.ownsRow_nil _ _ _ _, (fun j e => by cases e), (Below.refl _ _).alloc (Nat.le_refl _) _⟩
  case round =>
    obtain ⟨k, sv, hk, rfl, HBK, HS, HV, HB⟩ := hrel
    have hz := HB.out.size
    have hblt := block_lt HBK.out
    have k1 : wr.cell? ⟨w.heap.size, 1, none⟩ = some sv := by rw [cell_of_row wr _ _ _ _ _ HBK.out]; rfl
    by_cases hlt : k < many n
    · obtain ⟨hl1, hl2⟩ := (hmn k).1 hlt
      have hnb : sv.ownBlock ≠ some w.heap.size := fun e => by
        obtain ⟨cur, h1⟩ := own_type HS.out e
        have := HBK.out
        rw [h1] at this
        injection this with this; injection this with _ this; cases this
      have HNB : Hid (some w.heap.size ≠ sv.ownBlock) := fun e => hnb e.symm
      clear hnb
      go_wp2_with fail
      go_region_law ((first
        | (refine step_append_lies _ rfl (.tmp 20) (.tmp 22) 64 rfl 0 9 i0 _ 1 16 Try.underlying64 hi0 hz0 hz1 hz2 rfl (by decide) sv _ _ rfl HS2.out ⟨w2.heap.size, 0, none⟩ 1 1 [stc (pad [])] rfl rfl HNW.out (fun u hu => by simp at hu; subst hu; rfl) (by decide) (by unfold maxLen; omega) (by omega) (Nat.zero_le _) _ rfl ?_; intro g cap w3 ho hgr hat hlt3; have q1 := (hgr.cell_far ⟨w.heap.size, 1, none⟩ H2A.out HNB.out).trans J1.out; have qf := (hgr.frozen_far ⟨w.heap.size, 1, none⟩ H2A.out HNB.out).trans JF.out; have HGR := Lib.hid hgr; have HO := Lib.hid ho; have HAT := Lib.hid hat; clear ho hgr hat)
        | (go_simp; go_at_call 33; refine (padded_any none [] 0 (bs_nil _) (by decide)).mono ?_; rintro e w2 ⟨rfl, hb2⟩; have hs2 := hb2.size; have hbk2 := (hb2.block w.heap.size hblt).trans HBK.out; have j1 : w2.cell? ⟨w.heap.size, 1, none⟩ = some sv := (cell_of_row w2 w.heap.size 1 _ _ _ hbk2).trans rfl; have hlt2 := block_lt hbk2; have j1a : (w2.alloc (.cells #[stc (pad [])] 9)).cell? ⟨w.heap.size, 1, none⟩ = some sv := (World.cell?_alloc_past (w := w2) _ w.heap.size 1 hlt2).trans j1; have J1 := Lib.hid j1a; have JF := Lib.hid ((World.frozen?_alloc_past (w := w2) (.cells #[stc (pad [])] 9) w.heap.size 1 hlt2).trans (frozen_of_row w2 w.heap.size 1 _ _ hbk2)); have H2A : Hid (w.heap.size < (w2.alloc (.cells #[stc (pad [])] 9)).heap.size) := Lib.hid (by simp; omega); have HS2 := Lib.hid ((own_same (w' := w2) HS.out (fun j e => hb2.block j (own_lt HS.out e))).alloc (.cells #[stc (pad [])] 9)); have HNW := Lib.hid (World.news_of_block (heap_alloc_new w2 (.cells #[stc (pad [])] 9))); have HB2 := Lib.hid (HB.out.drew.trans (hb2.mono hz)); have HBK2 := Lib.hid hbk2; clear hb2 hbk2)))
      all_goals (
        have HN := Lib.hid (rnew_step HBK2.out HB2.out (Nat.le_refl _) HGR.out HNB.out HV.out HO.out HAT.out)
        clear q1 qf j1 j1a k1
        go_wp2
        refine ⟨⟨k + 1, _, by omega, by go_num, HN.out.1, HN.out.2.1, HN.out.2.2.1, HN.out.2.2.2⟩, by simp [intOf]; omega⟩)
    · obtain rfl : k = many n := by omega
      have hnot : ¬ (((many n : Nat) : Int) < n ∧ ((many n : Nat) : Int) < 200) := fun h => absurd ((hmn _).2 h) (by omega)
      have hbk := HBK.out
      have HNE : Hid (nwS n = fresh (List.replicate (many n) zsec)) := rfl
      rcases (show n ≤ ((many n : Nat) : Int) ∨ (((many n : Nat) : Int) < n ∧ (200 : Int) ≤ ((many n : Nat) : Int)) by omega) with hx | ⟨hx, hx'⟩
      all_goals (
        clear hnot hlt hmn
        go_wp2_with (at_builtin; refine wp_strs rfl (.tmp 27) (.tmp 31) rfl sv (List.replicate (many n) zsec) (many n) hm HS.out rfl rfl ?_)
        intro g c w2 ho hge hb
        have hba : w2.heap[w.heap.size]? = _ := (hb.block _ hblt).trans hbk
        have j0 : w2.cell? ⟨w.heap.size, 0, none⟩ = some (.slice none 0 0) := by rw [cell_of_row w2 _ _ _ _ _ hba]; rfl
        have jf : ∀ o, w2.frozen? ⟨w.heap.size, o, none⟩ = false := fun o => frozen_of_row w2 _ o _ _ hba
        have HBA := Lib.hid hba
        have HO := Lib.hid ho
        have HB2 := Lib.hid hb
        obtain ⟨cur, hcg, _⟩ := own_open ho
        have hglt := block_lt hcg
        have hz2 := hb.size
        clear ho hb hba hcg k1 hbk
        go_wp2
        go_ret
        have hlen : (nwS n).now.length = many n := nwS_len n
        have hz5 : (w2.setCell ⟨w.heap.size, 0, none⟩ (.slice (some ⟨g, 0, none⟩) (many n) c)).heap.size = w2.heap.size := by simp [World.setCell]
        have hkk : ∀ j, j ≠ w.heap.size → (w2.setCell ⟨w.heap.size, 0, none⟩ (.slice (some ⟨g, 0, none⟩) (many n) c)).heap[j]? = w2.heap[j]? := fun j hj => heap_setCell_other _ _ _ _ hj
        have hblk := heap_setCell_same w2 w.heap.size 0 _ _ (.slice (some ⟨g, 0, none⟩) (many n) c) HBA.out
        have hbw : Below w.heap.size w (w2.setCell ⟨w.heap.size, 0, none⟩ (.slice (some ⟨g, 0, none⟩) (many n) c)) := (HB.out.trans (HB2.out.mono hz)).setCell (p := ⟨w.heap.size, 0, none⟩) (Nat.le_refl _) _
        have hsne : sv.ownBlock ≠ some w.heap.size := fun e => by
          obtain ⟨cur, h1⟩ := own_type HS.out e
          have := HBK.out
          rw [h1] at this
          injection this with this; injection this with _ this; cases this
        refine ⟨w.heap.size, rfl, RM.own (nwS_ok n) ?_ (.inr ⟨Nat.le_refl _, by rw [hz5]; omega⟩) ?_ ?_ (fun k e => by cases e) ?_ hblk ?_ ?_ (World.ownsRow_nil _ _ _ _) ⟨rfl, rfl⟩, hbw⟩
        · intro k hk'
          rcases hk' with hk' | hk'
          · exact absurd hk' id
          · exact hk'.2
        · intro k e
          simp [Value.ownBlock] at e
          subst e
          exact .inr ⟨by omega, by rw [hz5]; exact hglt⟩
        · intro k e
          exact .inr ⟨HV.out k e, by rw [hz5]; have := own_lt HS.out e; omega⟩
        · intro k e
          simp [Value.ownBlock] at e
          subst e
          intro e'
          have := own_lt HS.out e'
          omega
        · rw [hlen, show List.map stc (nwS n).old = List.replicate (many n) (stc zsec) by show List.map stc (List.replicate (many n) zsec) = _; simp]
          exact own_same HO.out (fun k e => by simp [Value.ownBlock] at e; subst e; exact hkk _ (by omega))
        · rw [hlen]
          exact own_same HS.out (fun k e => (hkk k (fun e' => by subst e'; exact hsne e)).trans (HB2.out.block k (own_lt HS.out e))))
end Go.Proofs.Ytembonenaoineaa
