/- What Crash of the reference does. Conditions: the Drum lies in memory; at most 1000 writes wait. -/
import Derived.Test.YtembonenaoineaaRi
namespace Go.Proofs.Ytembonenaoineaa
set_option maxRecDepth 100000
set_option linter.unusedVariables false
open Go.ChangeShapes Go.WideShapes Go.ChangeAt Go.RowKit
theorem wait_at {F : Nat → Prop} {w : World} {b g c : Nat} {ov sv : Value} {n : Int} {d : Bool} {s : DS} (h : RM F w b ov sv (.slice (some ⟨g, 0, none⟩) s.pend.length c) n d s) (k : Nat) (hk : k < s.pend.length) :
    w.cell? ⟨g, k * 2, none⟩ = some (.int .i64 (s.pend[k].1 : Nat)) ∧ w.cell? ⟨g, k * 2 + 1, none⟩ = some (.string (bstr s.pend[k].2)) := by
  have hg := flat_get qc 2 s.pend (fun x hx => rfl) k hk
  have hc : ∀ j v, (qc s.pend[k])[j]? = some v → w.cell? ⟨g, k * 2 + j, none⟩ = some v := fun j v hj => by
    have := World.ownsRow.cells h.rw (g := g) rfl (k * 2 + j) v (by
      rw [← hg, List.getElem?_take] at hj
      split at hj
      · rw [List.getElem?_drop] at hj; exact hj
      · cases hj)
    rw [Addr.add_lit, Nat.zero_add] at this
    exact this
  exact ⟨hc 0 _ rfl, hc 1 _ rfl⟩
theorem crL_at {s : DS} {keep : List Bool} {k : Nat} (hk : k ≤ s.pend.length) (h : k = s.pend.length ∨ keep.length ≤ k) : crs keep s.pend s.old k = crL s keep := by
  unfold crL
  rcases h with rfl | h
  · rfl
  · have := crs_stop (keep := keep) (pend := s.pend) (l := s.old) h (s.pend.length - k)
    rw [show k + (s.pend.length - k) = s.pend.length by omega] at this
    exact this.symm
set_option maxRecDepth 100000 in
set_option maxHeartbeats 2000000 in
theorem rcrash_any {F : Nat → Prop} {w : World} {b : Nat} {s : DS} (h : RD F w b s) (K : Option Addr) (keep : List Bool) (c : Nat) (hK : Row .bool w K keep) (hp : s.pend.length ≤ 1000) :
    Calls Try.prog 24 #[.pointer (some ⟨b, 0, none⟩), .slice K keep.length c] w fun e w' => ∃ b', e = .returned (.pointer (some ⟨b', 0, none⟩)) ∧ RD (Nu (fun _ => False) w w') w' b' (crS s keep) ∧ Below w.heap.size w w' := by
  obtain ⟨ov, sv, wv, n, d, hm⟩ := h
  have HM := Lib.hid hm
  have HK := Lib.hid hK
  obtain ⟨k0, k1, k2, k3, k4, kf⟩ := hm.cells
  obtain ⟨W0, cW, hwv⟩ := own_slice hm.rw
  subst hwv
  have hfew := hm.ok.few
  have hlen := hm.ok.len
  have hbl := hm.lt b hm.fb
  clear hm hK k1 k3 k4 kf
  go_enter Try.func24, Try.ntmps24
  go_wp2_with (at_builtin; refine wp_strs rfl (.tmp 7) (.tmp 11) rfl ov s.old s.now.length hfew HM.out.ro rfl rfl ?_)
  intro g c1 w1 ho hge hb
  have HO := Lib.hid ho
  have HB := Lib.hid hb
  clear ho hb k0 k2
  go_wp2
  go_loopw [6] (fun i wr => ∃ k : Nat, k ≤ s.pend.length ∧ k ≤ keep.length ∧ i = .int .i64 k ∧ Hid (wr.ownsRow 0 9 1 (.slice (some ⟨g, 0, none⟩) s.now.length c1) s.now.length ((crs keep s.pend s.old k).map stc)) ∧ Hid (Below w.heap.size w wr)) (fun i _ => s.pend.length - (intOf i).toNat)
  case atStart => exact ⟨0, Nat.zero_le _, Nat.zero_le _, rfl, HO.out, HB.out⟩
  case round =>
    obtain ⟨k, hk, hkk, rfl, HO1, HB1⟩ := hrel
    clear HO HB
    have hz1 := HB1.out.size
    have j2 : wr.cell? ⟨b, 2, none⟩ = some (.slice W0 s.pend.length cW) := (HB1.out.cell hbl).trans HM.out.cells.2.2.1
    by_cases hlt : k < s.pend.length ∧ k < keep.length
    · obtain ⟨hlt, hkl⟩ := hlt
      obtain ⟨g3, cap, hv, hv4, hv5⟩ := World.ownsRow.form HM.out.rw (by omega)
      injection hv with hv hv2 hv3
      subst hv; subst hv3
      obtain ⟨hx1, hx2⟩ := HM.out.ok.pnd s.pend[k] (List.getElem_mem hlt)
      obtain ⟨c0, c1'⟩ := wait_at HM.out k hlt
      have hgD : s.pend.getD k (0, []) = s.pend[k] := getD_at hlt
      obtain ⟨pi, q, hx⟩ : ∃ pi q, s.pend[k] = (pi, q) := ⟨_, _, rfl⟩
      rw [hx] at c0 c1' hgD hx1 hx2
      simp only at hx1 hx2 c0 c1'
      have h3lt := HM.out.lt g3 (HM.out.fw g3 rfl)
      have d0 : wr.cell? ⟨g3, k * 2, none⟩ = some (.int .i64 (pi : Nat)) := (HB1.out.cell h3lt).trans c0
      have d1 : wr.cell? ⟨g3, k * 2 + 1, none⟩ = some (.string (bstr q)) := (HB1.out.cell h3lt).trans c1'
      obtain ⟨ad, hKa, hkc⟩ := HK.out k hkl
      have hkc2 : wr.cell? (ad.add k) = some (.bool keep[k]) := (HB1.out.cell (World.block_lt_of_cell? w _ hkc)).trans hkc
      subst hKa
      have HKD : Hid (keep.getD k false = keep[k]) := getD_at hkl
      have HG := Lib.hid hgD
      have HLL := Lib.hid ((crs_len keep s.pend s.old k).trans hlen)
      clear c0 c1' hgD hx hkc hv2 hv4 hv5 hx2
      cases hkb : keep[k] with
      | true =>
        rw [hkb] at hkc2 HKD
        have hrow := World.ownsRow.cellAt HO1.out pi (by omega)
        have hcp : ∃ u, wr.cell? ⟨g, pi, none⟩ = some u := by
          rw [hrow]
          exact ⟨_, List.getElem?_eq_getElem (by rw [List.length_map, HLL.out]; exact hx1)⟩
        obtain ⟨u0, hcu⟩ := hcp
        have hfu := World.ownsRow.frozenAt HO1.out pi
        have HN : Hid ((wr.drew.setCell ⟨g, pi, none⟩ (.string (bstr q))).ownsRow 0 9 1 (.slice (some ⟨g, 0, none⟩) s.now.length c1) s.now.length ((crs keep s.pend s.old (k + 1)).map stc)) := by
          show World.ownsRow _ _ _ _ _ _ _
          rw [show crs keep s.pend s.old (k + 1) = (crs keep s.pend s.old k).set pi q by rw [crs, HKD.out, HG.out]; rfl]
          exact own_str (w := wr.drew) HO1.out pi q
        have HB2 := Lib.hid (HB1.out.drew.setCell (p := ⟨g, pi, none⟩) hge (.string (bstr q)))
        clear hrow
        go_wp2_with fail
        go_still_tail 17, (by kernel_rfl)
        change wpList _ _ _ _ _ wr.drew
        go_wp2
        refine ⟨⟨k + 1, by omega, by omega, by go_num, HN.out, HB2.out⟩, by simp [intOf]; omega⟩
      | false =>
        rw [hkb] at hkc2 HKD
        clear d0 d1
        go_wp2
        refine ⟨⟨k + 1, by omega, by omega, by go_num, ?_, HB1.out⟩, by simp [intOf]; omega⟩
        show World.ownsRow _ _ _ _ _ _ _
        rw [show crs keep s.pend s.old (k + 1) = crs keep s.pend s.old k by rw [crs, HKD.out]; rfl]
        exact HO1.out
    · have hend := crL_at (s := s) (keep := keep) hk (by omega)
      have HO2 := HO1
      rw [hend] at HO2
      have HEN := Lib.hid (crL_len HM.out.ok keep)
      have HOK := Lib.hid (crS_ok HM.out.ok keep)
      rcases (show s.pend.length ≤ k ∨ (k < s.pend.length ∧ keep.length ≤ k) by omega) with hx | ⟨hx, hx'⟩
      all_goals (
        clear hend hlt
        go_wp2_with (at_builtin; refine wp_strs rfl (.tmp 50) (.tmp 51) rfl _ (crL s keep) s.now.length hfew HO2.out rfl rfl ?_)
        intro g5 c5 w2 ho5 hge5 hb5
        have HO5 := Lib.hid ho5
        have HB5 := Lib.hid hb5
        have HQ5 := Lib.hid (own_same (w' := w2) HO2.out (fun j e => hb5.block j (own_lt HO2.out e)))
        have hg5 := own_lt (k := g5) ho5 rfl
        have hgl := own_lt (k := g) HO2.out rfl
        have hz5 := hb5.size
        clear ho5 hb5 j2
        go_wp2
        go_ret
        have hbw : Below w.heap.size w (w2.alloc (.cells #[.slice (some ⟨g5, 0, none⟩) s.now.length c5, .slice (some ⟨g, 0, none⟩) s.now.length c1, .slice none 0 0, .int .i64 (-1), .bool false] 67)) := (HB1.out.trans (HB5.out.mono hz1)).alloc (by omega) _
        have hnl : (crS s keep).now.length = s.now.length := HEN.out
        refine ⟨w2.heap.size, rfl, RM.own HOK.out ?_ (.inr ⟨by omega, by simp⟩) ?_ ?_ (fun k e => by cases e) ?_ (heap_alloc_new w2 _) ?_ ?_ (World.ownsRow_nil _ _ _ _) ⟨rfl, rfl⟩, hbw⟩
        · intro j hj
          rcases hj with hj | hj
          · exact absurd hj id
          · exact hj.2
        · intro j e
          simp [Value.ownBlock] at e
          subst e
          exact .inr ⟨by omega, by simp; omega⟩
        · intro j e
          simp [Value.ownBlock] at e
          subst e
          exact .inr ⟨by omega, by simp; omega⟩
        · intro j e
          simp [Value.ownBlock] at e ⊢
          omega
        · rw [hnl]; exact HO5.out.alloc _
        · rw [hnl]; exact HQ5.out.alloc _)
end Go.Proofs.Ytembonenaoineaa
