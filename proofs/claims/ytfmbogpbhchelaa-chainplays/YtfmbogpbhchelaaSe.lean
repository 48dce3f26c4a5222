/- What Cut of the reference's Lists does. Conditions: the Lists lie in memory, fewer than 900,000 items. -/
import Derived.Test.YtfmbogpbhchelaaSd
namespace Go.Proofs.Ytfmbogpbhchelaa
set_option maxRecDepth 100000
set_option linter.unusedVariables false
open Go.ChangeShapes Go.WideShapes Go.ChangeAt Go.RowKit
section
variable {F : Nat → Prop} {w w' : World} {a : Nat} {I : List It}
set_option maxHeartbeats 2000000 in
theorem rcut_any (h : IC F w a I) (t u : Int) (hl : I.length ≤ 900000) :
    Calls Try.prog 13 #[.pointer (some ⟨a, 0, none⟩), .int .i64 t, .int .i64 u] w (DoesI F w a (.bool (It.has I t u)) (It.cut I t u)) := by
  have H := Lib.hid h
  have HA := at_any h t u
  unfold idxR at HA
  rw [cut_at]
  cases hh : It.has I t u with
  | false =>
    rw [hh, if_neg (by decide)] at HA
    have HA := Lib.hid HA
    have HE : Hid (I.eraseIdx (atI I t u) = I) := by
      simp only [Hid]
      refine List.eraseIdx_of_length_le ?_
      have := mt (at_has I t u).1 (by rw [hh]; decide)
      omega
    rw [HE.out]
    clear hh h
    go_enter Try.func13, Try.ntmps13
    go_wp2_with (go_at_call 24; (with_reducible refine HA.out.mono ?_); rintro e w1 ⟨rfl, rfl⟩)
    go_ret
    exact doesI_of H.out (Chg.refl F w) H.out.lt
  | true =>
    rw [hh, if_pos rfl] at HA
    have HA := Lib.hid HA
    have hi : atI I t u < I.length := (at_has I t u).2 hh
    clear hh
    generalize atI I t u = i at *
    obtain ⟨v1, hm⟩ := h
    have HM := Lib.hid hm
    obtain ⟨k0, kf⟩ := hm.cells
    obtain ⟨g, cp, hv1, _, hglt⟩ := World.ownsRow.form hm.r1 (by omega)
    subst hv1
    have hrow := hm.r1
    have hcap : I.length ≤ cp := (own_open hrow).choose_spec.2.1
    have hb0 := (Below.refl w.heap.size w).drew.alloc (Nat.le_refl _) (.cells #[] 52)
    have HB0 := Lib.hid hb0
    have HE : Hid ((w.drew.alloc (.cells #[] 52)).ownsRow 0 52 2 (.slice (some ⟨w.heap.size, 0, none⟩) 0 0) 0 []) := World.ownsRow_made w.drew #[] 0 (Nat.zero_le _) (by unfold maxLen; omega) rfl
    have hr0 := own_same (w' := w.drew.alloc (.cells #[] 52)) hrow (fun k hk => hb0.block k (by simp [Value.ownBlock] at hk; omega))
    have HR0 := own_take hr0 (i := i) (by omega)
    rw [itc_take I i (by omega)] at HR0
    have HR0 := Lib.hid HR0
    have HR := Lib.hid hrow
    have HER : Hid (itc (I.take i) ++ itc (I.drop (i + 1)) = itc (I.eraseIdx i)) := by simp only [Hid]; rw [← itc_app, List.eraseIdx_eq_take_drop_succ]
    have HLE : Hid ((I.eraseIdx i).length = i + (I.length - (i + 1))) := by simp only [Hid]; rw [List.length_eraseIdx, if_pos hi]; omega
    have HCD : Hid (∀ W, Below w.heap.size w W → ∀ j u, (itc (I.drop (i + 1)))[j]? = some u → W.cell? ((⟨g, (i + 1) * 2, none⟩ : Addr).add j) = some u) := fun W hW j u hj => by
      rw [Addr.add_lit]
      have hjl : j < (I.drop (i + 1)).length * 2 := by
        rcases Nat.lt_or_ge j ((I.drop (i + 1)).length * 2) with h | h
        · exact h
        · rw [List.getElem?_eq_none (by rw [itc_len]; exact h)] at hj; cases hj
      rw [List.length_drop] at hjl
      rw [hW.cell (p := ⟨g, (i + 1) * 2 + j, none⟩) hglt, World.ownsRow.cellAt HR.out _ (by omega)]
      have e2 : itc I = itc (I.take (i + 1)) ++ itc (I.drop (i + 1)) := by rw [← itc_app, List.take_append_drop]
      rw [e2, List.getElem?_append_right (by rw [itc_len, List.length_take]; omega), itc_len, List.length_take, Nat.min_eq_left (by omega), show (i + 1) * 2 + j - (i + 1) * 2 = j by omega]
      exact hj
    have HK0 := Lib.hid (fun W (hW : Below w.heap.size w W) => (hm.below hW).cells.1)
    have k0' : (w.alloc (.cells #[] 52)).cell? ⟨a, 0, none⟩ = some (.slice (some ⟨g, 0, none⟩) I.length cp) := HK0.out _ ((Below.refl w.heap.size w).alloc (Nat.le_refl _) _)
    have hw1 : IntKind.i64.wrap ((i : Int) + 1) = ((i + 1 : Nat) : Int) := by rw [show (i : Int) + 1 = ((i + 1 : Nat) : Int) by omega]; exact wrapI (by omega)
    have hdl : Hid ((itc (I.drop (i + 1))).length = (I.length - (i + 1)) * 2) := by simp only [Hid]; rw [itc_len, List.length_drop]
    have hicp : i ≤ cp := by omega
    have hi2 : i + 1 ≤ I.length := by omega
    have h0i : (0 : Int) ≤ (i : Int) + 1 := by omega
    have hi3 : (i : Int) + 1 ≤ (I.length : Int) := by omega
    have hii : (i : Int) ≤ (i : Int) + 1 := by omega
    have HN1 : Hid (∀ v1 : Value, v1.ownBlock = some w.heap.size ∨ v1.ownBlock = some (w.drew.alloc (.cells #[] 52)).heap.size → ∀ k, v1.ownBlock = some k → w.heap.size ≤ k) := fun v1 ho k hk => by
      rcases ho with e | e
      · rw [e] at hk; injection hk with hk; omega
      · rw [e] at hk; injection hk with hk; simp at hk; omega
    clear hm hr0 hb0 hrow
    go_enter Try.func13, Try.ntmps13
    go_upto_region 3 with (go_at_call 24; (with_reducible refine HA.out.mono ?_); rintro e w1 ⟨rfl, rfl⟩)
    by_cases hce : cp = i + 1
    · have hln : I.length = i + 1 := by omega
      have HND : Hid (itc (I.drop (i + 1)) = []) := by simp only [Hid]; rw [List.drop_of_length_le (by omega)]; rfl
      have HLN := Lib.hid hln
      clear hln
      subst hce
      go_region_law ((first
        | (have _ := HW1; refine st_of rfl (own_wp 26 52 _ 2 16 Try.underlying26 infoIt rfl (by decide) (by decide) (.tmp 22) (.tmp 29) rfl _ _ (itc (I.take i)) HW1.out rfl ⟨g, 0, none⟩ 0 0 [] rfl rfl (fun j u hj => by cases hj) (fun u hu => by cases hu) (by omega) ?_); intro v3 w3 hr3 hg3 ho3; have HB2 := Lib.hid (HB1.out.grown hg3 HB1.out.size HO1.out); have hba := HB2.out.block a (HM.out.lt a HM.out.fa); obtain ⟨j0, jf⟩ := HM.out.cellsIn hba; have s1 := HB1.out.size; have hr4 : w3.ownsRow 0 52 2 v3 (i + 0) (itc (I.eraseIdx i)) := (by rw [← HER.out, HND.out]; exact hr3); have HP := Lib.hid (HM.out.put (Chg.below HB2.out) hba hr4 (by have h1 := HLE.out; have h2 := HLN.out; omega) (fun k hk => .inr (by rcases ho3 with e | e; exact HO1.out k (by rw [← e]; exact hk); rw [e] at hk; injection hk with hk; omega))); obtain ⟨A3, c3, rfl⟩ := own_slice hr3; clear hr3 hg3 ho3 hba hr4 s1)
        | (refine st_of rfl (own_wp_row 26 52 _ 2 16 Try.underlying26 infoIt rfl (by decide) (by decide) (.tmp 15) (.tmp 21) rfl _ _ 0 i [] (itc (I.take i)) HE.out rfl HR0.out rfl (ic_one _) (by omega) ?_); intro v2 w2 hr2 hg2 ho2; rw [Nat.zero_add, List.nil_append] at hr2; have HW1 := Lib.hid hr2; have HO1 := Lib.hid (HN1.out v2 ho2); have HB1 := Lib.hid (HB0.out.grown hg2 HB0.out.size (fun k hk => by simp [Value.ownBlock] at hk; omega)); have k0w := HK0.out _ HB1.out; clear hr2 hg2 ho2)))
      all_goals (
        go_wp2
        go_ret
        exact ⟨ret_b rfl, ⟨_, HP.out.1⟩, HP.out.2⟩)
    · go_region_law ((first
        | (have _ := HW1; refine st_of rfl (own_wp 26 52 _ 2 16 Try.underlying26 infoIt rfl (by decide) (by decide) (.tmp 22) (.tmp 29) rfl _ _ (itc (I.take i)) HW1.out rfl ⟨g, (i + 1) * 2, none⟩ (I.length - (i + 1)) (cp - (i + 1)) (itc (I.drop (i + 1))) rfl hdl.out (HCD.out _ HB1.out) (ic_one _) (by omega) ?_); intro v3 w3 hr3 hg3 ho3; have HB2 := Lib.hid (HB1.out.grown hg3 HB1.out.size HO1.out); have hba := HB2.out.block a (HM.out.lt a HM.out.fa); obtain ⟨j0, jf⟩ := HM.out.cellsIn hba; have s1 := HB1.out.size; have hr4 : w3.ownsRow 0 52 2 v3 (i + (I.length - (i + 1))) (itc (I.eraseIdx i)) := (by rw [← HER.out]; exact hr3); have HP := Lib.hid (HM.out.put (Chg.below HB2.out) hba hr4 (by have h1 := HLE.out; omega) (fun k hk => .inr (by rcases ho3 with e | e; exact HO1.out k (by rw [← e]; exact hk); rw [e] at hk; injection hk with hk; omega))); obtain ⟨A3, c3, rfl⟩ := own_slice hr3; clear hr3 hg3 ho3 hba hr4 s1)
        | (refine st_of rfl (own_wp_row 26 52 _ 2 16 Try.underlying26 infoIt rfl (by decide) (by decide) (.tmp 15) (.tmp 21) rfl _ _ 0 i [] (itc (I.take i)) HE.out rfl HR0.out rfl (ic_one _) (by omega) ?_); intro v2 w2 hr2 hg2 ho2; rw [Nat.zero_add, List.nil_append] at hr2; have HW1 := Lib.hid hr2; have HO1 := Lib.hid (HN1.out v2 ho2); have HB1 := Lib.hid (HB0.out.grown hg2 HB0.out.size (fun k hk => by simp [Value.ownBlock] at hk; omega)); have k0w := HK0.out _ HB1.out; clear hr2 hg2 ho2)))
      all_goals (
        go_wp2
        go_ret
        exact ⟨ret_b rfl, ⟨_, HP.out.1⟩, HP.out.2⟩)
end
end Go.Proofs.Ytfmbogpbhchelaa
