/- What Sync and Crash of package drum do. Conditions: the Drum lies in memory. -/
import Derived.Test.YtembonenaoineaaDy
namespace Go.Proofs.Ytembonenaoineaa
set_option maxRecDepth 100000
set_option linter.unusedVariables false
open Go.ChangeShapes Go.WideShapes Go.ChangeAt Go.RowKit

theorem splice_all {α : Type} (L M : List α) (h : L.length = M.length) : splice L 0 M = M := by
  simp [splice, ← h]
theorem sync_end {F : Nat → Prop} {w : World} {a g1 c1 g2 c2 : Nat} {pv : Value} {f : Bool} {n : Int} {d : Bool} {s : DS} (h : PM F w a g1 c1 g2 c2 pv f n d s) {cur : Array Value} (hg2 : w.heap[g2]? = some (.cells cur 87 (0, 0))) :
    Does F w a (.int .i64 0) (held s) (.returned (.int .i64 0)) ((w.drew.setRow g2 (splice cur.toList 0 (scs s.now)).toArray).setCell ⟨a, 2, none⟩ (.slice none 0 0)) := by
  have hln := scs_len h.ok.sec
  have hr2 := own_splice (w := w.drew) h.r2 hg2 0 (scs s.now) (by omega)
  rw [splice_all (scs s.old) _ (by rw [h.r2.1, h.r1.1])] at hr2
  have hba : (w.drew.setRow g2 (splice cur.toList 0 (scs s.now)).toArray).heap[a]? = _ := (setRow_other w.drew g2 a _ h.an2).trans h.blk
  have hz : ((w.drew.setRow g2 (splice cur.toList 0 (scs s.now)).toArray).setCell ⟨a, 2, none⟩ (.slice none 0 0)).heap.size = w.heap.size := by
    have e1 : ∀ (W : World) (u : Value), (W.setCell ⟨a, 2, none⟩ u).heap.size = W.heap.size := fun W u => by simp [World.setCell]
    rw [e1, size_setRow]; rfl
  refine does_of ⟨g1, c1, g2, c2, .slice none 0 0, f, n, d, ⟨held_ok h.ok, fun k hk => by rw [hz]; exact h.lt k hk, h.fa, h.f1, h.f2, (fun k e => by cases e), h.ne, heap_setCell_same _ a 2 _ _ _ hba, ?_, ?_, World.ownsRow_nil _ _ _ _, h.life⟩⟩ ?_ h.lt
  · refine own_same h.r1 (fun k e => ?_)
    simp [Value.ownBlock] at e
    subst e
    rw [heap_setCell_other _ _ _ _ (fun e => h.an1 e.symm), setRow_other _ _ _ _ h.ne]
    rfl
  · exact ownsRow_setCell_other hr2 (by simp only [Value.ownBlock]; intro e; injection e with e; exact h.an2 e.symm) _
  · refine (((Chg.refl F w).grown (grown_drew w none) (fun k e => by cases e)).grown (grown_row _ g2 _) (fun k e => ?_)).grown (grown_set _ a 2 _) (fun k e => ?_)
    · injection e with e; subst e; exact .inl h.f2
    · injection e with e; subst e; exact .inl h.fa
theorem sync_nil (w : World) : Calls Try.prog 75 #[.pointer none] w fun e w' => e = .returned (.int .i64 9) ∧ w = w' := by
  go_enter Try.func75, Try.ntmps75
  go_wp2_with (go_at_call 44; refine (runs_nil _).mono ?_; rintro e w' ⟨rfl, rfl⟩)
  go_ret
  exact ⟨rfl, rfl⟩
theorem sync_any {F : Nat → Prop} {w : World} {a : Nat} {s : DS} (h : PD F w a s) :
    Calls Try.prog 75 #[.pointer (some ⟨a, 0, none⟩)] w (Does F w a (.int .i64 (syE s)) (syS s)) := by
  have H0 := Lib.hid h.lt
  have HR := Lib.hid (runs_any h)
  clear h
  cases hr : runsB s with
  | false =>
    rw [hr] at HR
    rw [show syE s = 9 by simp [syE, hr], show syS s = ticked s by simp [syS, hr]]
    clear hr
    go_enter Try.func75, Try.ntmps75
    go_wp2_with fail
    refine HR.out.mono ?_
    rintro e w1 ⟨rfl, h1, h2⟩
    have h1' := Lib.hid h1
    have h2' := Lib.hid h2
    clear h1 h2
    go_wp2
    go_ret
    exact ⟨rfl, h1'.out, h2'.out⟩
  | true =>
    rw [hr] at HR
    rw [show syE s = 0 by simp [syE, hr], show syS s = held (ticked s) by simp [syS, hr]]
    clear hr
    generalize ticked s = s1 at *
    go_enter Try.func75, Try.ntmps75
    go_wp2_with fail
    refine HR.out.mono ?_
    rintro e w1 ⟨rfl, h1, h2⟩
    have h2' := Lib.hid h2
    obtain ⟨g1, c1, g2, c2, pv, f, n, d, hm⟩ := h1
    have HM := Lib.hid hm
    obtain ⟨k0, k1, k2, k3, k4, k5, kf⟩ := hm.cells
    obtain ⟨cur, hg2, hc1, hc2, hc3, hc4⟩ := own_open hm.r2
    have HG2 := Lib.hid hg2
    have hcs : s1.now.length * 64 ≤ cur.size := by rw [hc3]; exact Nat.mul_le_mul_right _ hc1
    have HL := Lib.hid (scs_len hm.ok.sec)
    have HC := Lib.hid (World.ownsRow.cells hm.r1 (g := g1) rfl)
    have hba : (w1.drew.setRow g2 (splice cur.toList 0 (scs s1.now)).toArray).heap[a]? = _ := (setRow_other w1.drew g2 a _ hm.an2).trans hm.blk
    have j2 : (w1.drew.setRow g2 (splice cur.toList 0 (scs s1.now)).toArray).cell? ⟨a, 2, none⟩ = some pv := by rw [cell_of_row _ a _ _ _ _ hba]; rfl
    have jf : (w1.drew.setRow g2 (splice cur.toList 0 (scs s1.now)).toArray).frozen? ⟨a, 2, none⟩ = false := frozen_of_row _ a _ _ _ hba
    clear h2 hm hg2 hc1 hc2 hc3 hc4 hba
    go_wp2_with fail
    go_still_tail 8, (by kernel_rfl)
    refine wp_copyK rfl (.tmp 9) (.tmp 13) 63 63 rfl 87 64 Try.underlying63 sizeS g2 0 _ c2 _ c1 (some ⟨g1, 0, none⟩) rfl rfl cur 87 (scs s1.now) HG2.out (by rw [HL.out, show Nat.min s1.now.length s1.now.length = s1.now.length from Nat.min_self _]) (fun i v hv => ⟨_, rfl, HC.out i v hv⟩) (by rw [HL.out]; omega) (scs_one _) ?_
    change wpList _ _ _ _ _ (w1.drew.setRow g2 (splice cur.toList 0 (scs s1.now)).toArray)
    go_wp2
    go_ret
    exact Does.next h2'.out (sync_end HM.out HG2.out) H0.out
theorem pend_at {F : Nat → Prop} {w : World} {a g1 c1 g2 c2 : Nat} {pv : Value} {f : Bool} {n : Int} {d : Bool} {s : DS} (h : PM F w a g1 c1 g2 c2 pv f n d s) {g c : Nat} (hv : pv = .slice (some ⟨g, 0, none⟩) s.pend.length c) (k : Nat) (hk : k < s.pend.length) : w.rangeAt g (k * 65) (wcs s.pend[k]) := by
  have hg := flat_get wcs 65 s.pend (fun x hx => by simp [wcs, bcs_len, (h.ok.pnd x hx).2]) k hk
  intro j v hj
  have hc := World.ownsRow.cells h.r3 (g := g) (by rw [hv]; rfl) (k * 65 + j) v (by
    rw [← hg, List.getElem?_take] at hj
    split at hj
    · rw [List.getElem?_drop] at hj; exact hj
    · cases hj)
  rw [Addr.add_lit, Nat.zero_add] at hc
  exact hc
theorem crash_step {w : World} {g c n : Nat} {L : List (List UInt8)} {cur : Array Value} (h : w.ownsRow 0 87 64 (.slice (some ⟨g, 0, none⟩) n c) n (scs L)) (hL : ∀ x ∈ L, x.length = 64) (hn : L.length = n) (hg : w.heap[g]? = some (.cells cur 87 (0, 0))) {i : Nat} {q : List UInt8} (hi : i < n) (hq : q.length = 64) :
    (w.setRow g (splice cur.toList (i * 64) (bcs q)).toArray).ownsRow 0 87 64 (.slice (some ⟨g, 0, none⟩) n c) n (scs (L.set i q)) := by
  have hbq : (bcs q).length = 64 := by rw [bcs_len, hq]
  have := own_splice h hg (i * 64) (bcs q) (by rw [hbq]; omega)
  rwa [show splice (scs L) (i * 64) (bcs q) = scs (L.set i q) from flat_set bcs 64 L (fun x hx => by rw [bcs_len, hL x hx]) q hbq i (by omega)] at this
theorem crash_nil (w : World) (v : Value) : Calls Try.prog 23 #[.pointer none, v] w fun e w' => e = .returned (.pointer none) ∧ w = w' := by
  go_enter Try.func23, Try.ntmps23
  go_wp2
  go_ret
  exact ⟨rfl, rfl⟩
set_option maxRecDepth 100000 in
set_option maxHeartbeats 1000000 in
theorem crash_any {F : Nat → Prop} {w : World} {a : Nat} {s : DS} (h : PD F w a s) (K : Option Addr) (keep : List Bool) (c : Nat) (hK : Row .bool w K keep) (hp : s.pend.length ≤ 1000) :
    Calls Try.prog 23 #[.pointer (some ⟨a, 0, none⟩), .slice K keep.length c] w fun e w' => ∃ a', e = .returned (.pointer (some ⟨a', 0, none⟩)) ∧ PD (Nu (fun _ => False) w w') w' a' (crS s keep) ∧ Below w.heap.size w w' := by
  obtain ⟨g1, c1, g2, c2, pv, f, n, d, hm⟩ := h
  have HM := Lib.hid hm
  have HK := Lib.hid hK
  obtain ⟨k0, k1, k2, k3, k4, k5, kf⟩ := hm.cells
  obtain ⟨P0, cP, hpv⟩ := own_slice hm.r3
  subst hpv
  have hfew := hm.ok.few
  have hlen := hm.ok.len
  clear hm hK k0 k3 k4 k5 kf
  go_enter Try.func23, Try.ntmps23
  go_wp2_with fail
  refine (clone_any (l := s.old) HM.out.r2 hfew).mono ?_
  rintro e w1 ⟨g', c', rfl, ho, hge, hb⟩
  have HB := Lib.hid hb
  have HO := Lib.hid ho
  have hz := hb.size
  have j2 : w1.cell? ⟨a, 2, none⟩ = some (.slice P0 s.pend.length cP) := (hb.cell (HM.out.lt a HM.out.fa)).trans k2
  clear hb ho k1 k2
  go_wp2
  go_loopw [20] (fun i wr => ∃ k : Nat, k ≤ s.pend.length ∧ i = .int .i64 k ∧ Hid (wr.ownsRow 0 87 64 (.slice (some ⟨g', 0, none⟩) s.now.length c') s.now.length (scs (crs keep s.pend s.old k))) ∧ Hid (Below w.heap.size w wr)) (fun i _ => s.pend.length - (intOf i).toNat)
  case atStart => exact ⟨0, Nat.zero_le _, rfl, HO.out, HB.out⟩
  case round =>
    obtain ⟨k, hk, rfl, HO1, HB1⟩ := hrel
    clear j2 HO HB
    have hz1 := HB1.out.size
    by_cases hlt : k < s.pend.length
    · obtain ⟨g3, cap, hv, hv4, hv5⟩ := World.ownsRow.form HM.out.r3 (by omega)
      injection hv with hv hv2 hv3
      subst hv; subst hv3
      obtain ⟨hx1, hx2⟩ := HM.out.ok.pnd s.pend[k] (List.getElem_mem hlt)
      have hrg := pend_at HM.out rfl k hlt
      have hgD : s.pend.getD k (0, []) = s.pend[k] := getD_at hlt
      obtain ⟨pi, q, hx⟩ : ∃ pi q, s.pend[k] = (pi, q) := ⟨_, _, rfl⟩
      rw [hx] at hrg hgD hx1 hx2
      simp only at hx1 hx2
      have h3lt := HM.out.lt g3 (HM.out.f3 g3 rfl)
      have HX : Hid (wr.rangeAt g3 (k * 65) (wcs (pi, q))) := fun j v hj => by rw [HB1.out.cell (p := ⟨g3, k * 65 + j, none⟩) h3lt]; exact hrg j v hj
      have hwl : (wcs (pi, q)).length = 65 := by simp [wcs, bcs_len, hx2]
      have HWL := Lib.hid hwl
      have HQ := Lib.hid hx2
      have hw0 : (wcs (pi, q))[0]? = some (.int .i64 (pi : Nat)) := rfl
      have HWN := Lib.hid (heap_alloc_new wr (.cells (wcs (pi, q)).toArray 89))
      have HR1 : Hid ((wr.alloc (.cells (wcs (pi, q)).toArray 89)).rangeAt wr.heap.size 1 (bcs q)) := range_blk HWN.out (p := 1) (n := 64) (by simp [wcs, List.take_of_length_le, bcs_len, hx2])
      have HO2 := Lib.hid (HO1.out.alloc (.cells (wcs (pi, q)).toArray 89))
      obtain ⟨cur, hcur, hc1, hc2, hc3, hc4⟩ := own_open HO2.out
      have HCUR := Lib.hid hcur
      have hfit : (pi + 1) * 64 ≤ cur.size := by rw [hc3]; exact Nat.mul_le_mul_right _ (by omega)
      have HB2 := Lib.hid (HB1.out.alloc hz1 (.cells (wcs (pi, q)).toArray 89))
      have HLL := Lib.hid (crs_len keep s.pend s.old k)
      have HLS := Lib.hid (crs_sec (keep := keep) HM.out.ok.sec' (fun x hx => (HM.out.ok.pnd x hx).2) k hk)
      have HG := Lib.hid hgD
      clear hrg hx2 hwl hcur hc1 hc2 hc3 hgD hx hv4 hv5 hc4 hv2
      by_cases hkl : k < keep.length
      · obtain ⟨ad, hKa, hkc⟩ := HK.out k hkl
        have hkc2 : (wr.alloc (.cells (wcs (pi, q)).toArray 89)).cell? (ad.add k) = some (.bool keep[k]) := by rw [HB2.out.cell (World.block_lt_of_cell? w _ hkc)]; exact hkc
        subst hKa
        have hkd : keep.getD k false = keep[k] := getD_at hkl
        have HKD := Lib.hid hkd
        clear hkc hkd
        cases hkb : keep[k] with
        | true =>
          rw [hkb] at hkc2 HKD
          go_wp2_with (first
            | (refine wpList_load_mid rfl 89 (.tmp 23) rfl g3 (k * 65) rfl (wcs (pi, q)) _ HX.out Try.underlying89 rfl (by rw [HWL.out]; exact sizeW) ?_)
            | (refine wp_alloc rfl 89 rfl _ zeroW ?_)
            | (refine wp_store_new rfl 89 (.tmp 7) (.tmp 24) rfl _ _ rfl rfl (by rw [List.size_toArray, List.size_toArray, HWL.out]; rfl) (by rw [List.size_toArray, HWL.out]; exact sizeW) (wcs_one _) ?_)
            | (refine wpList_load_mid rfl 87 (.tmp 38) rfl wr.heap.size 1 rfl (bcs q) _ HR1.out Try.underlying87 rfl (by rw [bcs_len, HQ.out]; exact sizeS) ?_)
            | (refine wp_store_blk rfl 87 (.tmp 40) (.tmp 39) rfl g' (pi * 64) (bcs q).toArray cur 87 rfl rfl HCUR.out (by rw [List.size_toArray, bcs_len, HQ.out]; omega) (by rw [List.size_toArray, bcs_len, HQ.out]; exact sizeS) (bcs_one q) ?_))
          refine ⟨⟨k + 1, by omega, by go_num, ?_, ?_⟩, by simp [intOf]; omega⟩
          · have := crash_step HO2.out HLS.out (HLL.out.trans hlen) HCUR.out hx1 HQ.out
            show World.ownsRow _ _ _ _ _ _ _
            rw [show crs keep s.pend s.old (k + 1) = (crs keep s.pend s.old k).set pi q by rw [crs, HKD.out, HG.out]; rfl]
            exact this
          · exact below_setRow HB2.out hge _
        | false =>
          rw [hkb] at hkc2 HKD
          go_wp2_with (first
            | (refine wpList_load_mid rfl 89 (.tmp 23) rfl g3 (k * 65) rfl (wcs (pi, q)) _ HX.out Try.underlying89 rfl (by rw [HWL.out]; exact sizeW) ?_)
            | (refine wp_alloc rfl 89 rfl _ zeroW ?_)
            | (refine wp_store_new rfl 89 (.tmp 7) (.tmp 24) rfl _ _ rfl rfl (by rw [List.size_toArray, List.size_toArray, HWL.out]; rfl) (by rw [List.size_toArray, HWL.out]; exact sizeW) (wcs_one _) ?_))
          refine ⟨⟨k + 1, by omega, by go_num, ?_, HB2.out⟩, by simp [intOf]; omega⟩
          show World.ownsRow _ _ _ _ _ _ _
          rw [show crs keep s.pend s.old (k + 1) = crs keep s.pend s.old k by rw [crs, HKD.out]; rfl]
          exact HO2.out
      · have HKD := Lib.hid (getD_past (l := keep) (d := false) (show keep.length ≤ k by omega))
        go_wp2_with (first
          | (refine wpList_load_mid rfl 89 (.tmp 23) rfl g3 (k * 65) rfl (wcs (pi, q)) _ HX.out Try.underlying89 rfl (by rw [HWL.out]; exact sizeW) ?_)
          | (refine wp_alloc rfl 89 rfl _ zeroW ?_)
          | (refine wp_store_new rfl 89 (.tmp 7) (.tmp 24) rfl _ _ rfl rfl (by rw [List.size_toArray, List.size_toArray, HWL.out]; rfl) (by rw [List.size_toArray, HWL.out]; exact sizeW) (wcs_one _) ?_))
        refine ⟨⟨k + 1, by omega, by go_num, ?_, HB2.out⟩, by simp [intOf]; omega⟩
        show World.ownsRow _ _ _ _ _ _ _
        rw [show crs keep s.pend s.old (k + 1) = crs keep s.pend s.old k by rw [crs, HKD.out]; rfl]
        exact HO2.out
    · obtain rfl : k = s.pend.length := by omega
      have HL := Lib.hid (show s.now.length = (crL s keep).length from (crL_len HM.out.ok keep).symm)
      have HS := Lib.hid (crL_sec HM.out.ok keep)
      have HO2 : Hid (wr.ownsRow 0 87 64 (.slice (some ⟨g', 0, none⟩) s.now.length c') s.now.length (scs (crL s keep))) := HO1
      go_wp2_with fail
      refine (holding_any HO2.out HL.out (by rw [← HL.out]; exact hfew) HS.out).mono ?_
      rintro e w2 ⟨a', rfl, hpd, hb2⟩
      have hw : Below w.heap.size w w2 := HB1.out.trans (hb2.mono hz1)
      have HW := Lib.hid hw
      have HP : Hid (PD (Nu (fun _ => False) w w2) w2 a' (crS s keep)) := hpd.wide hw.size _ (fun j hj => .inr (by rcases hj with hj | hj <;> omega)) (fun j hj => absurd hj id)
      clear hpd hb2 hw
      go_wp2
      go_ret
      exact ⟨a', rfl, HP.out, HW.out⟩
end Go.Proofs.Ytembonenaoineaa
