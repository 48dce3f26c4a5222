/- Proved: ligaturelaw4.DrumCrashes returns true for every int, slice of acts and slice of bools, and leaves its arguments as they were. No condition. -/
import Derived.Test.YtghpjeaecdcgeaaRows
import Derived.Test.YtghpjeaecdcgeaaRl
import Derived.SizedLaws
import Derived.Deep.RegionWith
import Derived.WalkKit
import Derived.ProofKit
import Derived.OpenShut
import Derived.ShutString
import Derived.ChangeOld
import Derived.Below
namespace Go.Proofs.Ytghpjeaecdcgeaa.drumCrashes
open Go.ChangeShapes Go.WideShapes Go.ChangeAt Go.RowKit
open Go.ChangeMaps (open_string shut_string)
set_option linter.unusedVariables false
theorem own : ownKnob Try.prog.godebug = none := by kernel_rfl
theorem laidOut : laidOutB Try.prog = true := by kernel_rfl
/-- The writes that wait, done on what lasts, give the sectors as they are. -/
def allp (l : List (List UInt8)) (p : List (Nat × List UInt8)) : List (List UInt8) := p.foldl (fun l x => l.set x.1 x.2) l
def Whole (s : DS) : Prop := s.now = allp s.old s.pend
theorem whole_w {s : DS} (h : Whole s) (i : Int) (p : List UInt8) : Whole (wrS s i p) := by
  unfold wrS
  split
  · show (ticked s).now.set i.toNat (pad p) = allp s.old (s.pend ++ [(i.toNat, pad p)])
    unfold allp
    rw [List.foldl_append]
    show s.now.set i.toNat (pad p) = (allp s.old s.pend).set i.toNat (pad p)
    rw [← h]
  · exact h
theorem whole_s {s : DS} (h : Whole s) : Whole (syS s) := by
  unfold syS
  split
  · rfl
  · exact h
theorem whole_n (n : Int) : Whole (nwS n) := rfl
theorem crs_all {keep : List Bool} {pend : List (Nat × List UInt8)} {l : List (List UInt8)} : ∀ k, k ≤ pend.length → (∀ i, i < k → keep.getD i false = true) → crs keep pend l k = allp l (pend.take k)
  | 0, _, _ => rfl
  | k + 1, hk, hy => by
    have ih := crs_all (keep := keep) (pend := pend) (l := l) k (by omega) (fun i hi => hy i (by omega))
    rw [crs, hy k (by omega), if_pos rfl, ih, getD_at (show k < pend.length by omega), List.take_add_one, List.getElem?_eq_getElem (show k < pend.length by omega)]
    unfold allp
    rw [List.foldl_append]
    rfl
theorem whole_crash {s : DS} (h : Whole s) (n : Nat) (hn : s.pend.length ≤ n) : crL s (List.replicate n true) = s.now := by
  unfold crL
  rw [crs_all s.pend.length (Nat.le_refl _) (fun i hi => by rw [getD_at (by simp; omega)]; simp), List.take_length]
  exact h.symm
def tt (k n : Nat) : List Bool := List.replicate k true ++ List.replicate (n - k) false
theorem tt_len {k n : Nat} (h : k ≤ n) : (tt k n).length = n := by simp [tt]; omega
theorem tt_step {k n : Nat} (h : k < n) : ((tt k n).map Value.bool).set k (.bool true) = (tt (k + 1) n).map Value.bool := by
  unfold tt
  obtain ⟨r, hr⟩ : ∃ r, n - k = r + 1 := ⟨n - k - 1, by omega⟩
  rw [hr, show n - (k + 1) = r by omega, List.replicate_succ, List.map_append, List.set_append_right _ _ (by simp)]
  rw [show k - ((List.replicate k true).map Value.bool).length = 0 by simp, List.replicate_succ', List.map_append, List.map_append, List.append_assoc]
  rfl
theorem tt_full (n : Nat) : tt n n = List.replicate n true := by simp [tt]
theorem infoZ : (Try.prog.info? 4).map (fun i => (i.zero, i.size, i.bytes)) = some (some (.bool false), 1, 1) := by kernel_rfl
theorem rd_at {s : DS} {j : Nat} (hj : j < s.now.length) : rdL s (j : Nat) = s.now[j] := by
  have ht : there s (j : Nat) = true := by simp only [there, decide_eq_true_eq]; omega
  simp [rdL, ht, List.getD, hj]

set_option maxHeartbeats 8000000 in
set_option maxRecDepth 100000 in
theorem walk (a0 : Int) (a1 : Sl ActV) (a2 : Sl Bool) (w : World) (w0 : (Lit.int .i64 a0).wf = true) (w1 : SlA w a1) (w2 : SlT w a2) (z1 : a1.l.length * 64 ≤ 140737488351232) :
    Calls Try.prog 4 #[.int .i64 a0, slv a1, slv a2] w fun e w' => e = .returned (.bool true) ∧ Below w.heap.size w w' := by
  obtain ⟨A, l, c⟩ := a1
  obtain ⟨K, keep, kc⟩ := a2
  have H1 : Hid (SlA w ⟨A, l, c⟩) := w1
  have H2 : Hid (Row .bool w K keep) := w2
  obtain ⟨n0, n1⟩ := wf64 w0
  simp only at z1
  clear w1 w0 w2
  unfold slv
  simp only
  go_enter Try.func4, Try.ntmps4
  go_wp2_with fail
  refine (long_any A l c H1.out).mono ?_
  rintro e w1 ⟨bb, rfl, hb1⟩
  have HB1 := Lib.hid hb1
  clear hb1
  cases bb with
  | true =>
    go_wp2
    go_ret
    exact ⟨rfl, HB1.out⟩
  | false =>
    by_cases hbad : a0 < 0 ∨ 20 < a0 ∨ 200 < keep.length
    · rcases (show a0 < 0 ∨ (0 ≤ a0 ∧ 20 < a0) ∨ (0 ≤ a0 ∧ a0 ≤ 20 ∧ 200 < keep.length) by omega) with q | ⟨q, q'⟩ | ⟨q, q', q''⟩
      all_goals (
        clear hbad
        go_wp2
        go_ret
        exact ⟨rfl, HB1.out⟩)
    · obtain ⟨n, rfl⟩ : ∃ n : Nat, a0 = n := ⟨a0.toNat, by omega⟩
      have hn20 : n ≤ 20 := by omega
      have hk200 : keep.length ≤ 200 := by omega
      clear hbad
      go_wp2_with fail
      refine (new_any (n : Nat) w1).mono ?_
      rintro e w2 ⟨a, rfl, hp2, hb2⟩
      have HP2 := Lib.hid hp2
      have HB2 := Lib.hid hb2
      clear hp2 hb2
      go_wp2_with fail
      refine (rnew_any (n : Nat) n0 n1 w2).mono ?_
      rintro e w3 ⟨b, rfl, hr3, hb3⟩
      have HT := Lib.hid (two_new HB1.out HP2.out HB2.out hr3 hb3)
      have HPN : Hid ((nwS (n : Nat)).pend.length ≤ 0 ∧ (nwS (n : Nat)).now.length = n ∧ Whole (nwS (n : Nat))) := ⟨Nat.le_refl _, by rw [nwS_len]; unfold many; omega, whole_n _⟩
      clear hr3 hb3 HP2 HB2 HB1
      generalize Nu (fun _ => False) w1 w2 = F0 at *
      generalize Nu (fun _ => False) w2 w3 = G0 at *
      generalize nwS (n : Nat) = s0 at *
      go_wp2
      go_loopw [9] (fun i wr => ∃ (k : Nat) (s : DS) (F G : Nat → Prop), k ≤ l.length ∧ k ≤ 60 ∧ i = .int .i64 k ∧ Hid (s.pend.length ≤ k ∧ s.now.length = n ∧ Whole s) ∧ Hid (Two w wr a b s s F G)) (fun i _ => 60 - (intOf i).toNat)
      case atStart => exact ⟨0, s0, F0, G0, Nat.zero_le _, by omega, rfl, HPN.out, HT.out⟩
      case round =>
        clear HT HPN
        obtain ⟨k, s, F, G, hkl, hk60, rfl, HPN, HT⟩ := hrel
        by_cases hlt : k < l.length ∧ k < 60
        · obtain ⟨hlt, h60⟩ := hlt
          obtain ⟨ad, pk, hA, hpk, hin, hat⟩ := act_at H1.out HT.out.bl (k := k) hlt
          simp only at hA
          subst hA
          have hxb : SlB w l[k].p := hat.bp
          generalize l[k] = x at *
          obtain ⟨kd, xi, ⟨xA, xp, xc⟩, xk⟩ := x
          have c0 := hin.c0
          have c1 := hin.c1
          have c2 := hin.c2
          have HIN : Hid (∀ W, Below w.heap.size w W → W.cell? ⟨pk.block, pk.off + 1, none⟩ = some (.int .i64 xi) ∧ W.cell? ⟨pk.block, pk.off + 2, none⟩ = some (.slice xA xp.length xc)) := fun W hW => ⟨(hat.in hW).c1, (hat.in hW).c2⟩
          simp only at c0 c1 c2 hxb
          have HXB : Hid (BS w xA xp xc) := hxb
          have HP1000 : Hid (s.pend.length ≤ 1000) := by have := HPN.out.1; simp only [Hid]; omega
          clear hin hat hxb
          by_cases hk1 : kd = 1
          · subst hk1
            have HTd := Lib.hid HT.out.drew
            have HW := Lib.hid (write_any HTd.out.pd xi xA xp xc (HXB.out.below HTd.out.bl) (arg_apart HXB.out HTd.out.fF) HP1000.out)
            have HPN2 : Hid ((wrS s xi xp).pend.length ≤ k + 1 ∧ (wrS s xi xp).now.length = n ∧ Whole (wrS s xi xp)) := ⟨Nat.le_trans (wrS_pend s xi xp) (by have := HPN.out.1; omega), (wrS_len s xi xp).trans HPN.out.2.1, whole_w HPN.out.2.2 xi xp⟩
            go_wp2_with fail
            go_still_tail 11, (by kernel_rfl)
            change wpList _ _ _ _ _ wr.drew
            go_wp2_with fail
            refine HW.out.mono ?_
            rintro e w4 ⟨rfl, hp4, hc4⟩
            have HT4 := Lib.hid (HTd.out.left hp4 hc4)
            have d1 := (HIN.out _ HT4.out.bl).1
            have d2 := (HIN.out _ HT4.out.bl).2
            have HT4d := Lib.hid HT4.out.drew
            have HW2 := Lib.hid (rwrite_any HT4d.out.rd xi xA xp xc (HXB.out.below HT4d.out.bl) (arg_apart HXB.out HT4d.out.fG) HP1000.out)
            clear hp4 hc4 c0 c1 c2 HW
            go_wp2_with fail
            go_still_tail 11, (by kernel_rfl)
            change wpList _ _ _ _ _ w4.drew
            go_wp2_with fail
            refine HW2.out.mono ?_
            rintro e w5 ⟨rfl, hp5, hc5⟩
            have HT5 := Lib.hid (HT4d.out.right hp5 hc5)
            clear hp5 hc5 d1 d2 HW2
            go_wp2
            refine ⟨⟨k + 1, _, _, _, by omega, by omega, by go_num, HPN2.out, HT5.out⟩, by simp [intOf]; omega⟩
          · have hq1 : (kd == 1) = false := by simpa using hk1
            have HPN2 : Hid ((syS s).pend.length ≤ k + 1 ∧ (syS s).now.length = n ∧ Whole (syS s)) := ⟨Nat.le_trans (syS_pend s) (by have := HPN.out.1; omega), (syS_len s).trans HPN.out.2.1, whole_s HPN.out.2.2⟩
            clear c1 c2
            go_wp2_with fail
            refine (sync_any HT.out.pd).mono ?_
            rintro e w4 ⟨rfl, hp4, hc4⟩
            have HT4 := Lib.hid (HT.out.left hp4 hc4)
            clear hp4 hc4
            go_wp2_with fail
            refine (rsync_any HT4.out.rd).mono ?_
            rintro e w5 ⟨rfl, hp5, hc5⟩
            have HT5 := Lib.hid (HT4.out.right hp5 hc5)
            clear hp5 hc5
            go_wp2
            refine ⟨⟨k + 1, _, _, _, by omega, by omega, by go_num, HPN2.out, HT5.out⟩, by simp [intOf]; omega⟩
        · have HKL := Lib.hid hkl
          have HP1000 : Hid (s.pend.length ≤ 1000) := by have := HPN.out.1; simp only [Hid]; omega
          have HC := Lib.hid (crash_any HT.out.pd K keep kc (row_below H2.out HT.out.bl) HP1000.out)
          obtain ⟨i0, hi0, hz0, hz1, hz2⟩ := info_parts infoZ
          rcases (show l.length ≤ k ∨ (k < l.length ∧ 60 ≤ k) by omega) with q | ⟨q, q'⟩
          focus
            clear hlt
            go_wp2_with fail
            refine HC.out.mono ?_
          rotate_left
          focus
            clear hlt
            go_wp2_with fail
            refine HC.out.mono ?_
          all_goals (
            rintro e w4 ⟨cb, rfl, hp4, hb4⟩
            have HC4 := Lib.hid hp4
            have HT4 := Lib.hid (HT.out.below hb4)
            clear hp4 hb4 HC
            generalize Nu (fun _ => False) wr w4 = Fc at *
            go_wp2_with (at_make; refine wpList_make_full _ rfl _ _ _ rfl w4.heap.size 4 i0 _ 1 Try.underlying29 hi0 hz0 hz1 _ _ _ _ l.length rfl rfl (by omega) (by omega) (by rw [hz2]; omega) (by unfold maxLen; omega) (Nat.le_refl _) ?_)
            intro w5 ho5 hg5
            have hb5 : Below w4.heap.size w4 w5 := (Below.refl _ _).grown hg5 (Nat.le_refl _) (fun k e => by cases e)
            have HO5 : Hid (w5.ownsRow w4.heap.size 4 1 (.slice (some ⟨w4.heap.size, 0, none⟩) l.length l.length) l.length ((tt 0 l.length).map Value.bool)) := by
              have e : (madeCells #[Value.bool false] l.length).toList = (tt 0 l.length).map Value.bool := by rw [toList_madeCells_one]; simp [tt]
              show World.ownsRow _ _ _ _ _ _ _
              rw [← e]
              simpa using ho5
            have HT5 := Lib.hid (HT4.out.below hb5)
            have HC5 := Lib.hid (HC4.out.below hb5)
            have HLT := Lib.hid HT4.out.pd.lt
            have HLG := Lib.hid HT4.out.rd.lt
            have HLC := Lib.hid HC4.out.lt
            have hz4 := HT4.out.bl.size
            clear ho5 hg5 hb5 HT4 HC4
            go_wp2
            go_loopw [12] (fun i wr2 => ∃ j : Nat, j ≤ l.length ∧ i = .int .i64 j ∧ Hid (wr2.ownsRow w4.heap.size 4 1 (.slice (some ⟨w4.heap.size, 0, none⟩) l.length l.length) l.length ((tt j l.length).map Value.bool)) ∧ Hid (Below w4.heap.size w5 wr2)) (fun i _ => l.length - (intOf i).toNat)
            case atStart => exact ⟨0, Nat.zero_le _, rfl, HO5.out, Below.refl _ _⟩
            case round =>
              clear HO5
              obtain ⟨j, hj, rfl, HO6, HB6⟩ := hrel
              by_cases hjl : j < l.length
              · have hcc : wr.cell? ⟨w4.heap.size, j, none⟩ = some (((tt j l.length).map Value.bool)[j]'(by rw [List.length_map, tt_len hj]; exact hjl)) := by
                  rw [HO6.out.cellAt j (by omega)]
                  exact List.getElem?_eq_getElem _
                have hff := HO6.out.frozenAt j
                have HST : Hid ((wr.setCell ⟨w4.heap.size, j, none⟩ (.bool true)).ownsRow w4.heap.size 4 1 (.slice (some ⟨w4.heap.size, 0, none⟩) l.length l.length) l.length ((tt (j + 1) l.length).map Value.bool)) := by
                  show World.ownsRow _ _ _ _ _ _ _
                  rw [← tt_step hjl]
                  exact (HO6.out.stored j (.bool true)).1
                have HB7 := Lib.hid (HB6.out.setCell (p := ⟨w4.heap.size, j, none⟩) (Nat.le_refl _) (.bool true))
                generalize ((tt j l.length).map Value.bool)[j]'(by rw [List.length_map, tt_len hj]; exact hjl) = u at hcc
                go_wp2
                refine ⟨⟨j + 1, by omega, by go_num, HST.out, HB7.out⟩, by simp [intOf]; omega⟩
              · obtain rfl : j = l.length := by omega
                have hCB := Chg.of_base HB6.out
                have HP6 := Lib.hid (HT5.out.pd.chg hCB (fun x hx => by have := HLT.out x hx; omega))
                have HR6 := Lib.hid (HT5.out.rd.chg hCB (fun x hx => by have := HLG.out x hx; omega))
                have HT6 : Hid (Two w wr a b s s F G) := ⟨HP6.out, HR6.out, HT5.out.ap, HT5.out.fF, HT5.out.fG, HT5.out.bl.trans (HB6.out.mono hz4)⟩
                have HC6 := Lib.hid (HC5.out.chg hCB (fun x hx => by have := HLC.out x hx; omega))
                have hrow : Row .bool wr (some ⟨w4.heap.size, 0, none⟩) (List.replicate l.length true) := by
                  have := HO6.out
                  rw [tt_full] at this
                  exact row_own (by simpa using this)
                have hcr := crash_any HT6.out.pd (some ⟨w4.heap.size, 0, none⟩) (List.replicate l.length true) l.length hrow HP1000.out
                rw [List.length_replicate] at hcr
                have hwc : crS s (List.replicate l.length true) = fresh s.now := by
                  unfold crS
                  rw [whole_crash HPN.out.2.2 l.length (Nat.le_trans HPN.out.1 HKL.out)]
                rw [hwc] at hcr
                have HCR := Lib.hid hcr
                clear hCB hrow hcr hwc HP6 HR6 HT5 HC5 HO6 HB6
                go_wp2_with fail
                refine HCR.out.mono ?_
                rintro e w7 ⟨eb, rfl, hp7, hb7⟩
                have HE7 := Lib.hid hp7
                have HC7 := Lib.hid (HC6.out.below hb7)
                have HT7 := Lib.hid (HT6.out.below hb7)
                clear hp7 hb7 HCR
                generalize Nu (fun _ => False) wr w7 = Fe at *
                have HWT := Lib.hid (waiting_any HC7.out)
                rw [show (crS s keep).pend.length = 0 from rfl] at HWT
                go_wp2_with fail
                refine HWT.out.mono ?_
                rintro e w' ⟨rfl, rfl⟩
                go_wp2
                go_loopw [14] (fun i wr3 => ∃ j : Nat, j ≤ n ∧ i = .int .i64 j ∧ Hid (PD Fc wr3 cb (crS s keep)) ∧ Hid (PD Fe wr3 eb (fresh s.now)) ∧ Hid (Two w wr3 a b s s F G)) (fun i _ => n - (intOf i).toNat)
                case atStart => exact ⟨0, Nat.zero_le _, rfl, HC7.out, HE7.out, HT7.out⟩
                case round =>
                  clear HC7 HE7 HT7 HWT
                  obtain ⟨j, hj, rfl, HC8, HE8, HT8⟩ := hrel
                  have hnl := HPN.out.2.1
                  by_cases hjn : j < n
                  · obtain ⟨ov, sv, wv, rn, rd, hm⟩ := HT8.out.rd
                    obtain ⟨g3, c3, hsv, hcj, _⟩ := row_str hm.rs j (by omega)
                    subst hsv
                    have k1 := hm.cells.2.1
                    rw [hnl] at k1
                    have hbl := hm.lt b hm.fb
                    have hgl := hm.lt g3 (hm.fs g3 rfl)
                    have HEd := Lib.hid HE8.out.drew
                    have HCd := Lib.hid HC8.out.drew
                    have HTd := Lib.hid HT8.out.drew
                    have hr1 := read_any HEd.out (j : Nat)
                    rw [rd_at (s := fresh s.now) (j := j) (by simp only [fresh]; omega)] at hr1
                    simp only [fresh] at hr1
                    have HR1 := Lib.hid hr1
                    have hcl : (rdL (crS s keep) (j : Nat)).length = 64 := by
                      have hjc : j < (crS s keep).now.length := by have := crL_len HT8.out.pd.ok keep; show j < (crL s keep).length; omega
                      rw [rd_at hjc]
                      exact HC8.out.ok.sec _ (List.getElem_mem _)
                    have HCL := Lib.hid hcl
                    clear hm hr1 hcl
                    generalize s.now[j] = q0 at *
                    go_wp2_with fail
                    go_region_with ((first
                      | (go_at_call 24; (with_reducible refine HR1.out.mono ?_); rintro e w8 ⟨v8, rfl, ho8, hb8⟩; obtain ⟨A8, c8, rfl, hbs8, hA8⟩ := ho8.open; have hcv8 := hbs8.conv _ rfl; have m1 : w8.cell? ⟨b, 1, none⟩ = some (.slice (some ⟨g3, 0, none⟩) n c3) := (hb8.cell (p := ⟨b, 1, none⟩) hbl).trans k1; have mj : w8.cell? ⟨g3, j, none⟩ = some (.string (bstr q0)) := (hb8.cell (p := ⟨g3, j, none⟩) hgl).trans hcj; have HC9 := Lib.hid (HCd.out.below hb8); have HE9 := Lib.hid (HEd.out.below hb8); have HT9 := Lib.hid (HTd.out.below hb8); clear ho8 hb8 hbs8 hA8)
                      | (go_at_call 24; (with_reducible refine (read_any HC9.out (j : Nat)).mono ?_); rintro e w9 ⟨v9, rfl, ho9, hb9⟩; obtain ⟨A9, c9, rfl, hbs9, hA9⟩ := ho9.open; rw [HCL.out]; have HC10 := Lib.hid (HC9.out.below hb9); have HE10 := Lib.hid (HE9.out.below hb9); have HT10 := Lib.hid (HT9.out.below hb9); clear ho9 hb9 hbs9 hA9)))
                    all_goals (
                      clear hcv8 m1 mj k1 hcj
                      go_wp2
                      refine ⟨⟨j + 1, by omega, by go_num, HC10.out, HE10.out, HT10.out⟩, by simp [intOf]; omega⟩)
                  · obtain rfl : j = n := by omega
                    clear hnl
                    go_wp2_with fail
                    refine (rcrash_any HT8.out.rd K keep kc (row_below H2.out HT8.out.bl) HP1000.out).mono ?_
                    rintro e w9 ⟨b9, rfl, hr9, hb9⟩
                    have HR9 := Lib.hid hr9
                    have HC9 := Lib.hid (HC8.out.below hb9)
                    have HT9 := Lib.hid (HT8.out.below hb9)
                    clear hr9 hb9
                    go_wp2_with fail
                    refine (alike_any HC9.out HR9.out).mono ?_
                    rintro e w10 ⟨rfl, hb10⟩
                    have HT10 := Lib.hid (HT9.out.below hb10)
                    clear hb10
                    go_wp2_with fail
                    refine (alike_any HT10.out.pd HT10.out.rd).mono ?_
                    rintro e w11 ⟨rfl, hb11⟩
                    have HB11 := Lib.hid (HT10.out.below hb11).bl
                    clear hb11
                    go_wp2_with fail
                    refine (known_any _).mono ?_
                    rintro e w12 ⟨rfl, hb12⟩
                    go_wp2
                    go_ret
                    exact ⟨rfl, HB11.out.trans (hb12.mono HB11.out.size)⟩)

set_option maxRecDepth 100000 in
theorem lifted (os : Os) (started : os.Started) (H : Type) (enc : TypeId × Value → H) :
    ReturnsInHanded {} Try.checked os 4 .any (Rows.drumCrashesSpec.pre6 enc Try.prog Try.f4 Rows.drumCrashesRow.domain false) (Rows.drumCrashesSpec.post enc Try.prog Try.f4 false true false false) := by
  refine returnsInHanded_of_change_sized (C := Try.checked) own started (by kernel_rfl) Try.func4
    (ChangeSpec.witness6 (enc := enc) (C := Try.checked) false ⟨#[], #[.int .i64 0, .slice none 0 0, .slice none 0 0], []⟩ 8 (by kernel_rfl) (by kernel_rfl) (by kernel_rfl) (by kernel_rfl)) ?_
  intro W base args ds gs before hval0 hW hcnd hsz0 _
  have hsz : (DataW.weightsEach Try.prog (Try.f4.params.toList ++ Rows.drumCrashesSpec.plain.varTypes Try.prog) (ds ++ gs)).all (· ≤ reachBytes) = true := hsz0
  have hval : ∀ (j : Nat) t v, Try.f4.params[j]? = some t → args[j]? = some v → Value.okWide Try.prog W .any base t v := hval0
  have hW' := hW
  obtain ⟨p, q, hA0, hV, rfl, hfz, hnd⟩ := hW
  have hA : DataW.TrodAll enc Try.prog W 0 (fun _ => true) true Try.f4.params.toList args.toList ds p := hA0
  rw [Try.params4] at hA hval hsz
  obtain ⟨v0, vs0, d0, ds0, p0, q0, hargs, rfl, rfl, h0, r0⟩ := trodAll_cons hA
  obtain ⟨v1, vs1, d1, ds1, p1, q1, rfl, rfl, rfl, h1, r1⟩ := trodAll_cons r0
  obtain ⟨v2, vs2, d2, ds2, p2, q2, rfl, rfl, rfl, h2, r2⟩ := trodAll_cons r1
  obtain ⟨rfl, rfl, rfl⟩ := trodAll_nil r2
  obtain rfl : args = #[v0, v1, v2] := by cases args; simp_all
  obtain ⟨rfl, rfl⟩ := trodVars_none hV
  obtain ⟨a0, rfl, rfl, rfl, w0⟩ := open_int Try.underlying3 (hval 0 3 v0 rfl rfl) h0
  have k1 := h1
  have lt1 : ∀ x ∈ p1, x.block < W.heap.size := by obtain ⟨m, hm⟩ := k1; exact DataW.trod_lt m _ _ _ hm
  obtain ⟨a1, rfl, w1⟩ := open_acts (hval 1 22 v1 rfl rfl) h1
  have k2 := h2
  have lt2 : ∀ x ∈ p2, x.block < W.heap.size := by obtain ⟨m, hm⟩ := k2; exact DataW.trod_lt m _ _ _ hm
  obtain ⟨a2, rfl, w2⟩ := open_bools (hval 2 29 v2 rfl rfl) h2
  have z1 : a1.l.length * 64 ≤ 140737488351232 := by
    rcases trod_len Try.underlying22 k1 with h | ⟨elems, spare, hd, hl⟩
    · rw [h]; omega
    · subst hd
      have := sized_slice hsz (j := 1) (t := 22) rfl rfl Try.underlying22
      rw [show Try.prog.bytesOf _ = 64 by kernel_rfl] at this
      simp only [reachBytes] at this
      rw [← hl]; omega
  clear hA0 hval0
  refine (walk a0 a1 a2 W w0 w1 w2 z1).mono fun e W' ⟨he, bel⟩ => ?_
  subst he
  exact ⟨_, rfl, _, _, _, [], _, [], hW', trodAll_mk1 (shut_bool Try.underlying4 _), (trodAll_cons_mk (shut_int Try.underlying3 w0) (trodAll_cons_mk (Below.trod laidOut (by kernel_rfl) (of_decide_eq_true (by kernel_rfl)) k1 bel lt1) (trodAll_cons_mk (Below.trod laidOut (by kernel_rfl) (of_decide_eq_true (by kernel_rfl)) k2 bel lt2) trodAll_mk0))), rfl, bel.frame _, fun h => by cases h⟩

theorem over : Rows.drumCrashesRow.holds Try.pinned (OpenSpec.ofChange Rows.drumCrashesSpec) :=
  OpenClaim.holds_of_wide 4 Try.f4 rfl rfl rfl rfl rfl rfl rfl ⟨rfl, rfl, rfl, rfl, rfl⟩ rfl rfl rfl rfl rfl (by kernel_rfl) Try.func4 (by kernel_rfl)
    (of_decide_eq_true (by kernel_rfl)) (by unfold Func.isWrapper; first | (rw [if_pos (by decide +kernel)]; kernel_rfl) | (rw [if_neg (by decide +kernel)]; exact ⟨rfl, rfl⟩))
    (fun os started H enc _ => lifted os started H enc)

theorem proved : Rows.DrumCrashesSaid := over
#print axioms proved
end Go.Proofs.Ytghpjeaecdcgeaa.drumCrashes
