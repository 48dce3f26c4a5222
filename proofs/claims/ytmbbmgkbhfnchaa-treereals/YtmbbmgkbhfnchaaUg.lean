/- What Del of the reference's Tree makes of it. Conditions: the Tree lies in memory, its entries are valid, fewer than 900,000. -/
import Derived.Test.YtmbbmgkbhfnchaaUf
namespace Go.Proofs.Ytmbbmgkbhfnchaa
set_option maxRecDepth 100000
set_option linter.unusedVariables false
open Go.ChangeShapes Go.WideShapes Go.ChangeAt Go.RowKit
open Fl (S)
open Val (V cmpV cmpI isB)
section
variable {F : Nat → Prop} {w w' : World} {a : Nat} {I : List En}
theorem doesT_later {w1 : World} {v : Value} {e : Ending} (h0 : ∀ k, F k → k < w.heap.size) (hb : Below w.heap.size w w1) (h : DoesT F w1 a v I e w') : DoesT F w a v I e w' := by
  have s1 := hb.size
  have s2 := h.2.2.size
  refine ⟨h.1, h.2.1.same (fun k hk => ?_) (fun k hk => ?_) (fun _ _ => rfl), (Chg.below hb).trans (h.2.2.mono (fun k hk => .inl hk))⟩
  · rcases hk with hk | hk
    · exact .inl hk
    · exact .inr ⟨by omega, hk.2⟩
  · rcases hk with hk | hk
    · have := h0 k hk; omega
    · exact hk.2
set_option maxHeartbeats 2000000 in
theorem rdel_any (h : TC F w a I) (x : En) (hx : EOk x) (hl : I.length ≤ 900000) :
    Calls Try.prog 14 #[.pointer (some ⟨a, 0, none⟩), ev x] w (DoesT F w a (.bool (hasE I x)) (delE I x)) := by
  have hb := (Below.refl w.heap.size w).alloc (Nat.le_refl _) (.cells #[.int .i64 x.v.k, .bool x.v.b, .int .i64 x.v.n, .float .f64 x.v.f, .string x.v.t, .int .i64 x.i] 34)
  have HV0 := Lib.hid hb
  have H0 := Lib.hid h.lt
  have HV := Lib.hid (h.below hb)
  have HA := rat_any (h.below hb) x hx.2
  obtain ⟨b0, b1, b2, b3, b4, b5⟩ := box_entry w x
  simp only [Nat.zero_add] at b0 b1 b2 b3 b4 b5
  obtain ⟨v1, h1⟩ := h
  have HOI := Lib.hid h1.ok
  clear h1 hb
  cases hh : hasE I x with
  | false =>
    rw [hh] at HA
    have HA := Lib.hid HA
    have HE : Hid (delE I x = I) := by simp only [Hid]; unfold delE; rw [hh]; rfl
    rw [HE.out]
    clear hh hx
    generalize atE I x = k at *
    obtain ⟨⟨xk, xb, xn, xf, xt⟩, xi⟩ := x
    go_enter Try.func14, Try.ntmps14
    go_wp2_with (go_at_call 29; (with_reducible refine HA.out.mono ?_); rintro e u1 ⟨rfl, hb1⟩; have HB1 := Lib.hid hb1; clear hb1)
    go_ret
    exact doesT_of (HV.out.below HB1.out) (Chg.below (bnext HV0.out HB1.out)) H0.out
  | true =>
    rw [hh] at HA
    have HA := Lib.hid HA
    have HE : Hid (delE I x = I.eraseIdx (atE I x)) := by simp only [Hid]; unfold delE; rw [hh]; rfl
    rw [HE.out]
    have hi : atE I x < I.length := hasE_lt hh
    have HOK : Hid (∀ y, y ∈ I.eraseIdx (atE I x) → EOk y) := fun y hy => HOI.out y ((List.eraseIdx_sublist _ _).subset hy)
    clear hh hx
    generalize atE I x = i at *
    obtain ⟨⟨xk, xb, xn, xf, xt⟩, xi⟩ := x
    go_enter Try.func14, Try.ntmps14
    go_upto_region 3 with (go_at_call 29; (with_reducible refine HA.out.mono ?_); rintro e u1 ⟨rfl, hb1⟩; have HB1 := Lib.hid hb1; clear hb1)
    have HBW := Lib.hid (bnext HV0.out HB1.out)
    have h1 := HV.out.below HB1.out
    clear HA HV HE b0 b1 b2 b3 b4 b5 HB1 HV0
    obtain ⟨v1, hm⟩ := h1
    have HM := Lib.hid hm
    obtain ⟨k0, kf⟩ := hm.cells
    obtain ⟨g, cp, hv1, _, hglt⟩ := World.ownsRow.form hm.r1 (by omega)
    subst hv1
    have hrow := hm.r1
    have hcap : I.length ≤ cp := (own_open hrow).choose_spec.2.1
    have hb0 := (Below.refl u1.heap.size u1).drew.alloc (Nat.le_refl _) (.cells #[] 34)
    have HB0 := Lib.hid hb0
    have HE : Hid ((u1.drew.alloc (.cells #[] 34)).ownsRow 0 34 6 (.slice (some ⟨u1.heap.size, 0, none⟩) 0 0) 0 []) := World.ownsRow_made u1.drew #[] 0 (Nat.zero_le _) (by unfold maxLen; omega) rfl
    have hr0 := own_same (w' := u1.drew.alloc (.cells #[] 34)) hrow (fun k hk => hb0.block k (by simp [Value.ownBlock] at hk; omega))
    have HR0 := own_take hr0 (i := i) (by omega)
    rw [ecs_take I i (by omega)] at HR0
    have HR0 := Lib.hid HR0
    have HR := Lib.hid hrow
    have HER : Hid (ecs (I.take i) ++ ecs (I.drop (i + 1)) = ecs (I.eraseIdx i)) := by simp only [Hid]; rw [← ecs_app, List.eraseIdx_eq_take_drop_succ]
    have HLE : Hid ((I.eraseIdx i).length = i + (I.length - (i + 1))) := by simp only [Hid]; rw [List.length_eraseIdx, if_pos hi]; omega
    have HCD : Hid (∀ W, Below u1.heap.size u1 W → ∀ j u, (ecs (I.drop (i + 1)))[j]? = some u → W.cell? ((⟨g, (i + 1) * 6, none⟩ : Addr).add j) = some u) := fun W hW j u hj => by
      rw [Addr.add_lit]
      have hjl : j < (I.drop (i + 1)).length * 6 := by
        rcases Nat.lt_or_ge j ((I.drop (i + 1)).length * 6) with h | h
        · exact h
        · rw [List.getElem?_eq_none (by rw [ecs_len]; exact h)] at hj; cases hj
      rw [List.length_drop] at hjl
      rw [hW.cell (p := ⟨g, (i + 1) * 6 + j, none⟩) hglt, World.ownsRow.cellAt HR.out _ (by omega)]
      have e2 : ecs I = ecs (I.take (i + 1)) ++ ecs (I.drop (i + 1)) := by rw [← ecs_app, List.take_append_drop]
      rw [e2, List.getElem?_append_right (by rw [ecs_len, List.length_take]; omega), ecs_len, List.length_take, Nat.min_eq_left (by omega), show (i + 1) * 6 + j - (i + 1) * 6 = j by omega]
      exact hj
    have HK0 := Lib.hid (fun W (hW : Below u1.heap.size u1 W) => (hm.below hW).cells.1)
    have k0' : (u1.alloc (.cells #[] 34)).cell? ⟨a, 0, none⟩ = some (.slice (some ⟨g, 0, none⟩) I.length cp) := HK0.out _ ((Below.refl u1.heap.size u1).alloc (Nat.le_refl _) _)
    have hw1 : IntKind.i64.wrap ((i : Int) + 1) = ((i + 1 : Nat) : Int) := by rw [show (i : Int) + 1 = ((i + 1 : Nat) : Int) by omega]; exact wrapI (by omega)
    have hdl : Hid ((ecs (I.drop (i + 1))).length = (I.length - (i + 1)) * 6) := by simp only [Hid]; rw [ecs_len, List.length_drop]
    have hicp : i ≤ cp := by omega
    have hi2 : i + 1 ≤ I.length := by omega
    have h0i : (0 : Int) ≤ (i : Int) + 1 := by omega
    have hi3 : (i : Int) + 1 ≤ (I.length : Int) := by omega
    have hii : (i : Int) ≤ (i : Int) + 1 := by omega
    have HN1 : Hid (∀ v1 : Value, v1.ownBlock = some u1.heap.size ∨ v1.ownBlock = some (u1.drew.alloc (.cells #[] 34)).heap.size → ∀ k, v1.ownBlock = some k → u1.heap.size ≤ k) := fun v1 ho k hk => by
      rcases ho with e | e
      · rw [e] at hk; injection hk with hk; omega
      · rw [e] at hk; injection hk with hk; simp at hk; omega
    clear hm hr0 hb0 hrow
    by_cases hce : cp = i + 1
    · have hln : I.length = i + 1 := by omega
      have HND : Hid (ecs (I.drop (i + 1)) = []) := by simp only [Hid]; rw [List.drop_of_length_le (by omega)]; rfl
      have HLN := Lib.hid hln
      clear hln
      subst hce
      go_region_law ((first
        | (have _ := HW1; refine st_of rfl (own_wp 27 34 _ 6 56 Try.underlying27 infoEn rfl (by decide) (by decide) (.tmp 22) (.tmp 29) rfl _ _ (ecs (I.take i)) HW1.out rfl ⟨g, 0, none⟩ 0 0 [] rfl rfl (fun j u hj => by cases hj) (fun u hu => by cases hu) (by omega) ?_); intro v3 w3 hr3 hg3 ho3; have HB2 := Lib.hid (HB1.out.grown hg3 HB1.out.size HO1.out); have hba := HB2.out.block a (HM.out.lt a HM.out.fa); obtain ⟨j0, jf⟩ := HM.out.cellsIn hba; have s1 := HB1.out.size; have hr4 : w3.ownsRow 0 34 6 v3 (i + 0) (ecs (I.eraseIdx i)) := (by rw [← HER.out, HND.out]; exact hr3); have HP := Lib.hid (HM.out.put (Chg.below HB2.out) hba hr4 (by have h1 := HLE.out; have h2 := HLN.out; omega) (fun k hk => .inr (by rcases ho3 with e | e; exact HO1.out k (by rw [← e]; exact hk); rw [e] at hk; injection hk with hk; omega)) HOK.out); obtain ⟨A3, c3, rfl⟩ := own_slice hr3; clear hr3 hg3 ho3 hba hr4 s1)
        | (refine st_of rfl (own_wp_row 27 34 _ 6 56 Try.underlying27 infoEn rfl (by decide) (by decide) (.tmp 15) (.tmp 21) rfl _ _ 0 i [] (ecs (I.take i)) HE.out rfl HR0.out rfl (ec_one _) (by omega) ?_); intro v2 w2 hr2 hg2 ho2; rw [Nat.zero_add, List.nil_append] at hr2; have HW1 := Lib.hid hr2; have HO1 := Lib.hid (HN1.out v2 ho2); have HB1 := Lib.hid (HB0.out.grown hg2 HB0.out.size (fun k hk => by simp [Value.ownBlock] at hk; omega)); have k0w := HK0.out _ HB1.out; clear hr2 hg2 ho2)))
      all_goals (
        go_wp2
        go_ret
        exact doesT_later H0.out HBW.out ⟨rfl, ⟨_, HP.out.1⟩, HP.out.2⟩)
    · go_region_law ((first
        | (have _ := HW1; refine st_of rfl (own_wp 27 34 _ 6 56 Try.underlying27 infoEn rfl (by decide) (by decide) (.tmp 22) (.tmp 29) rfl _ _ (ecs (I.take i)) HW1.out rfl ⟨g, (i + 1) * 6, none⟩ (I.length - (i + 1)) (cp - (i + 1)) (ecs (I.drop (i + 1))) rfl hdl.out (HCD.out _ HB1.out) (ec_one _) (by omega) ?_); intro v3 w3 hr3 hg3 ho3; have HB2 := Lib.hid (HB1.out.grown hg3 HB1.out.size HO1.out); have hba := HB2.out.block a (HM.out.lt a HM.out.fa); obtain ⟨j0, jf⟩ := HM.out.cellsIn hba; have s1 := HB1.out.size; have hr4 : w3.ownsRow 0 34 6 v3 (i + (I.length - (i + 1))) (ecs (I.eraseIdx i)) := (by rw [← HER.out]; exact hr3); have HP := Lib.hid (HM.out.put (Chg.below HB2.out) hba hr4 (by have h1 := HLE.out; omega) (fun k hk => .inr (by rcases ho3 with e | e; exact HO1.out k (by rw [← e]; exact hk); rw [e] at hk; injection hk with hk; omega)) HOK.out); obtain ⟨A3, c3, rfl⟩ := own_slice hr3; clear hr3 hg3 ho3 hba hr4 s1)
        | (refine st_of rfl (own_wp_row 27 34 _ 6 56 Try.underlying27 infoEn rfl (by decide) (by decide) (.tmp 15) (.tmp 21) rfl _ _ 0 i [] (ecs (I.take i)) HE.out rfl HR0.out rfl (ec_one _) (by omega) ?_); intro v2 w2 hr2 hg2 ho2; rw [Nat.zero_add, List.nil_append] at hr2; have HW1 := Lib.hid hr2; have HO1 := Lib.hid (HN1.out v2 ho2); have HB1 := Lib.hid (HB0.out.grown hg2 HB0.out.size (fun k hk => by simp [Value.ownBlock] at hk; omega)); have k0w := HK0.out _ HB1.out; clear hr2 hg2 ho2)))
      all_goals (
        go_wp2
        go_ret
        exact doesT_later H0.out HBW.out ⟨rfl, ⟨_, HP.out.1⟩, HP.out.2⟩)
end
end Go.Proofs.Ytmbbmgkbhfnchaa
