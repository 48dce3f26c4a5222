/- Proved: ligaturelaw5.RedoOrder returns true for every slice of slices of bytes and slice of bools, and leaves its arguments as they were. No condition. -/
import Derived.Test.YtembonenaoineaaRows
import Derived.Test.YtembonenaoineaaGm
import Derived.Test.YtembonenaoineaaGn
import Derived.Deep.RegionLaw
import Derived.SizedLaws
import Derived.Deep.DeepCutAuto
import Derived.Deep.CutRange
import Derived.WalkKit
import Derived.ProofKit
import Derived.OpenShut
import Derived.ShutString
import Derived.ChangeOld
import Derived.Below
namespace Go.Proofs.Ytembonenaoineaa.redoOrder
set_option maxRecDepth 100000
open Go.ChangeShapes Go.WideShapes Go.ChangeAt Go.RowKit
open Go.ChangeMaps (open_string shut_string)
set_option linter.unusedVariables false
theorem own : ownKnob Try.prog.godebug = none := by kernel_rfl
theorem laidOut : laidOutB Try.prog = true := by kernel_rfl
def LoopR (l : List (List UInt8)) (k N : Nat) (s : DS) (L : LG) (want : List (List UInt8)) : Prop :=
  N ≤ 3000 ∧ sumL want ≤ N ∧ s.now.length = 120 ∧ s.life = some none ∧ Rst s L want ∧ L.h.n ≤ k

set_option maxHeartbeats 8000000 in
set_option maxRecDepth 100000 in
theorem walk (a0 : Sl (List UInt8)) (a1 : Sl Bool) (w : World) (w0 : SlR w a0) (w1 : SlT w a1) (z0 : ∀ x ∈ a0.l, x.length ≤ 140737488351232) :
    Calls Try.prog 7 #[slv a0, slv a1] w fun e w' => e = .returned (.bool true) ∧ Below w.heap.size w w' := by
  obtain ⟨A, l, cl⟩ := a0
  obtain ⟨K, rst, kc⟩ := a1
  have H0 : Hid (Es w A l) := w0.1
  have H1 : Hid (Row .bool w K rst) := w1
  have HZ : Hid (∀ x ∈ l, x.length ≤ 140737488351232) := z0
  clear w1 w0 z0
  unfold slv
  simp only
  by_cases hbad : 60 < l.length ∨ rst.length < l.length
  · rcases (show 60 < l.length ∨ (l.length ≤ 60 ∧ rst.length < l.length) by omega) with q | ⟨q, q'⟩
    all_goals (
      clear hbad
      go_enter Try.func7, Try.ntmps7
      go_wp2
      go_ret
      exact ⟨rfl, Below.refl _ _⟩)
  · have hl60 : l.length ≤ 60 := by omega
    have hrl : l.length ≤ rst.length := by omega
    clear hbad
    go_enter Try.func7, Try.ntmps7
    go_wp2_with fail
    refine (new_any 120 w).mono ?_
    rintro e w1 ⟨a, rfl, hp1, hb1⟩
    have HB1 := Lib.hid hb1
    have HF1 := Lib.hid (nu_ge (F := fun _ => False) (w := w) (w' := w1) (B := w.heap.size) (fun _ h => absurd h id) (Nat.le_refl _))
    have HP1 := Lib.hid hp1
    have HR := Lib.hid (rst_new 120 (by omega) (by omega))
    have HN : Hid ((nwS ((120 : Nat) : Int)).now.length = 120) := by simp only [Hid]; rw [nwS_len]; decide
    have HLF : Hid ((nwS ((120 : Nat) : Int)).life = some none) := rfl
    change Hid (PD _ w1 a (nwS ((120 : Nat) : Int))) at HP1
    clear hp1 hb1
    generalize Nu (fun _ => False) w w1 = F1 at *
    generalize nwS ((120 : Nat) : Int) = s1 at *
    go_wp2_with fail
    refine (open_rst HP1.out HR.out.rest (by simp)).mono ?_
    rintro e w2 ⟨hb2, c, v, rfl, hl2, hc2, hrs2⟩
    obtain ⟨A2, c2, rfl, _, _, _⟩ := hrs2.open
    have HS2 := Lib.hid (sys_open HB1.out HP1.out HF1.out hb2 hl2 hc2)
    have HLR : Hid (LoopR l 0 0 s1 ⟨hd0, 0, false⟩ []) := ⟨by omega, by simp [sumL], HN.out, HLF.out, HR.out, Nat.zero_le _⟩
    have HWT : Hid (Wt w w2 F1 c (.slice none 0 0) []) := ⟨Rs.nil _ _ _, fun k hk => by cases hk⟩
    clear hb2 hl2 hc2 hrs2 HP1 HB1 HF1 HR HN HLF
    go_wp2
    go_loopw [9, 10, 11] (fun n wv i wr => ∃ (k N : Nat) (s : DS) (L : LG) (F : Nat → Prop) (want : List (List UInt8)), k ≤ l.length ∧ n = .int .i64 N ∧ i = .int .i64 k ∧ Hid (LoopR l k N s L want) ∧ Hid (Wt w wr F c wv want) ∧ Hid (Sys w wr F a c s L)) (fun _ _ i _ => l.length - (intOf i).toNat)
    case atStart => exact ⟨0, 0, s1, _, F1, [], Nat.zero_le _, rfl, rfl, HLR.out, HWT.out, HS2.out⟩
    case round =>
      clear HLR HS2 HWT
      obtain ⟨k, N, s, L, F, want, hkl, rfl, rfl, HLR, HWT, HS⟩ := hrel
      have hN3 := HLR.out.1
      by_cases hlt : k < l.length
      · obtain ⟨ad, Ai, ci, hA, hcell0, hbs0⟩ := H0.out k hlt
        subst hA
        have HCELL : Hid (∀ W, Below w.heap.size w W → W.cell? (ad.add k) = some (.slice Ai l[k].length ci)) := fun W hW => (hW.cell (World.block_lt_of_cell? w _ hcell0)).trans hcell0
        have HBS0 := Lib.hid hbs0
        have HIN := Lib.hid (arg_in (wr := w) hbs0)
        obtain ⟨bd, hK, hbc⟩ := (row_below' H1.out HS.out.bl) k (by omega)
        subst hK
        have hpl := HZ.out l[k] (List.getElem_mem hlt)
        have hcell := HCELL.out wr HS.out.bl
        generalize l[k] = p at *
        generalize rst[k] = rb at *
        clear hcell0 hbs0
        by_cases hbig : 3000 < N + 2 + p.length
        · have hbi : (3000 : Int) < (N : Int) + 2 + (p.length : Int) := by omega
          go_wp2
          go_ret
          exact ⟨rfl, HS.out.bl⟩
        · have hbi : (N : Int) + 2 + (p.length : Int) ≤ 3000 := by omega
          obtain ⟨_, hsw, hsn, hlf, hr, hLn⟩ := HLR.out
          have HBS := Lib.hid (HBS0.out.below HS.out.bl)
          have hbk : bk s.now = 59 := by unfold bk; rw [hsn]
          have hen := enc_len want (fun q hq => by have := sumL_mem hq; omega)
          have hep := encS_two (p := p) (by omega)
          have hfw := sumL_few want
          have HEW : Hid (want.length ≤ 1500) := by simp only [Hid]; omega
          cases rb with
          | true =>
            have HAP := Lib.hid (res_rst HS.out hr Ai p ci HBS.out (by omega) (by rw [hbk]; omega) (by omega))
            have HST : Hid (s.life = some none ∧ s.now.length = 120 ∧ L.h.n ≤ k) := ⟨hlf, hsn, hLn⟩
            clear hsw hsn hlf hr hLn hbk hen hep hfw
            go_wp2_with fail
            refine HAP.out.mono ?_
            rintro e w4 ⟨E, s', L', rfl, hs4, hc4, hst⟩
            rcases hst.res with ⟨rfl, hr4, hn4, hlf4⟩ | ⟨_, hl, _⟩
            · have HS4 := Lib.hid hs4
              have hz4 := hc4.size
              have q4 := HCELL.out w4 hs4.bl
              have hb5 := (Below.refl w4.heap.size w4).alloc (Nat.le_refl _) (.cells #[.slice Ai p.length ci] 36)
              have HS5 := Lib.hid (hs4.below hb5)
              have HW5 : Hid (Wt w (w4.alloc (.cells #[.slice Ai p.length ci] 36)) (Nu F wr w4) c (.slice (some ⟨w4.heap.size, 0, none⟩) 1 1) [p]) :=
                Wt.of (Rs.one _ w4.heap.size (Nat.le_refl _) (HBS0.out.below hs4.bl) (fun bd e => by have hz := hs4.bl.size; rcases HIN.out bd e with h | h; exact .inl h; exact .inr ⟨h, by omega⟩)) hs4.bl.size hs4.pd.lt hs4.lm.lt
              have HLL := Lib.hid (llen_any HS5.out.lm)
              have hct : L'.cnt = 1 := by rw [hr4.cnt]; rfl
              rw [hct] at HLL
              change Hid (Calls _ _ _ _ fun e w' => e = .returned (.int .i64 1) ∧ _) at HLL
              have HLR2 : Hid (LoopR l (k + 1) (N + 2 + p.length) s' L' [p]) := ⟨by omega, by simp [sumL]; omega, hst.len.trans HST.out.2.1, hlf4 HST.out.1, hr4, by rw [hn4]; have := HST.out.2.2; omega⟩
              clear hs4 hc4 hst hr4 hn4 hlf4 hct HAP hb5 HS4 hcell
              go_wp2_with fail
              refine HLL.out.mono ?_
              rintro e w5 ⟨rfl, rfl⟩
              go_wp2
              refine ⟨⟨k + 1, N + 2 + p.length, s', L', _, [p], by omega, by go_num, by go_num, HLR2.out, HW5.out, HS5.out⟩, by simp [intOf]; omega⟩
            · exact absurd HST.out.1 hl
          | false =>
            have HAP := Lib.hid (app_rst HS.out hr Ai p ci HBS.out (by omega) (by rw [List.length_append, hbk]; omega) (by omega))
            have HST : Hid (s.life = some none ∧ s.now.length = 120 ∧ L.h.n ≤ k ∧ sumL want ≤ N) := ⟨hlf, hsn, hLn, hsw⟩
            clear hsw hsn hlf hr hLn hbk hen hep hfw
            go_wp2_with fail
            refine HAP.out.mono ?_
            rintro e w4 ⟨E, s', L', rfl, hs4, hc4, hst⟩
            rcases hst.res with ⟨rfl, hr4, hn4, hlf4⟩ | ⟨_, hl, _⟩
            · have HS4 := Lib.hid hs4
              have hw4 := HWT.out.puts HS.out.fF HS.out.fc hc4
              have HLR2 : Hid (LoopR l (k + 1) (N + 2 + p.length) s' L' (want ++ [p])) := ⟨by omega, by rw [sumL_snoc]; have := HST.out.2.2.2; omega, hst.len.trans HST.out.2.1, hlf4 HST.out.1, hr4, by rw [hn4]; have := HST.out.2.2.1; omega⟩
              have hct : L'.cnt = want.length + 1 := by rw [hr4.cnt]; simp [esOf]
              have HCT := Lib.hid hct
              obtain ⟨Aw, cw, hv, hes, hbare, hin⟩ := hw4.1.open
              subst hv
              have HES := Lib.hid hes
              have HBR := Lib.hid hbare
              have HRI := Lib.hid (rs_in hw4.1)
              have q4 := HCELL.out w4 hs4.bl
              have HBP := Lib.hid (HBS0.out.below hs4.bl)
              have hsz4 := hs4.bl.size
              have HL4 := Lib.hid hs4.pd.lt
              have hcl4 := hs4.lm.lt
              clear hs4 hc4 hst hr4 hn4 hlf4 hct HAP hw4 hes hbare hin hcell
              go_upto_region 19 with fail
              go_cut [10] from 38 to 92 (fun v wx => Hid (Rs (fun k => k < w.heap.size) w4.heap.size wx v (want ++ [p]) ∧ Below w4.heap.size w4 wx))
              case first =>
                have ba : Below w4.heap.size w4 (w4.alloc (.cells #[] 36)) := (Below.refl _ _).alloc (Nat.le_refl _) _
                have bb : Below w4.heap.size w4 ((w4.alloc (.cells #[] 36)).alloc (.cells #[.slice Ai p.length ci] 36)) := ba.alloc (by simp) _
                have bo : Below w4.heap.size w4 (w4.alloc (.cells #[.slice Ai p.length ci] 36)) := (Below.refl _ _).alloc (Nat.le_refl _) _
                have bc : Below w4.heap.size w4 ((w4.alloc (.cells #[.slice Ai p.length ci] 36)).alloc (.cells #[] 36)) := bo.alloc (by simp) _
                have BA := Lib.hid ba.drew
                have BB := Lib.hid bb.drew
                have BC := Lib.hid bc.drew
                have RA : Hid (Rs (fun k => k < w.heap.size) w4.heap.size (w4.alloc (.cells #[] 36)).drew (.slice (some ⟨w4.heap.size, 0, none⟩) 0 0) []) := (Rs.empty _ w4.heap.size w4 (Nat.le_refl _)).below (Below.refl _ _).drew
                have RB : Hid (Rs (fun k => k < w.heap.size) w4.heap.size ((w4.alloc (.cells #[] 36)).alloc (.cells #[.slice Ai p.length ci] 36)).drew (.slice (some ⟨w4.heap.size, 0, none⟩) 0 0) []) := (Rs.empty _ w4.heap.size w4 (Nat.le_refl _)).below ((Below.refl _ _).alloc (Nat.le_refl _) _).drew
                have RC : Hid (Rs (fun k => k < w.heap.size) w4.heap.size ((w4.alloc (.cells #[.slice Ai p.length ci] 36)).alloc (.cells #[] 36)).drew (.slice (some ⟨w4.heap.size + 1, 0, none⟩) 0 0) []) := by
                  have := (Rs.empty (fun k => k < w.heap.size) w4.heap.size (w4.alloc (.cells #[.slice Ai p.length ci] 36)) (by simp)).below (Below.refl _ _).drew
                  simp only [Hid]
                  simpa using this
                have OB : Hid (((w4.alloc (.cells #[] 36)).alloc (.cells #[.slice Ai p.length ci] 36)).cell? ⟨w4.heap.size + 1, 0, none⟩ = some (.slice Ai p.length ci)) := by
                  have := cell_new1 (w4.alloc (.cells #[] 36)) (.slice Ai p.length ci) 36
                  simp only [World.size_alloc] at this
                  exact this
                have OC : Hid (((w4.alloc (.cells #[.slice Ai p.length ci] 36)).alloc (.cells #[] 36)).cell? ⟨w4.heap.size, 0, none⟩ = some (.slice Ai p.length ci)) := cell_al _ (cell_new1 w4 _ _)
                have qa := cell_al (.cells #[] 36) q4
                clear ba bb bo bc
                go_region_law ((first
                  | (refine st_of rfl (rs_wp (.tmp 75) (.tmp 76) rfl RA.out rfl Aw want _ cw rfl rfl (HES.out.below BA.out) HBR.out (hl_want HRI.out HES.out BA.out _ (rs_ge RA.out hsz4)) (by have := HEW.out; simp; omega) (by simp) ?_); intro v1 w1 hr1 hb1 hg1 ha1; rw [List.nil_append] at hr1; have B1 := Lib.hid (BA.out.trans hb1); have R1 := Lib.hid hr1; have q1 := (B1.out.cell (World.block_lt_of_cell? w4 _ q4)).trans q4; have hz1 := B1.out.size; have RO : Hid (Rs (fun k => k < w.heap.size) w4.heap.size (w1.alloc (.cells #[.slice Ai p.length ci] 36)) v1 want) := hr1.below ((Below.refl _ _).alloc (Nat.le_refl _) _); have CO := Lib.hid (cell_new1 w1 (.slice Ai p.length ci) 36); have BO : Hid (Below w4.heap.size w4 (w1.alloc (.cells #[.slice Ai p.length ci] 36))) := B1.out.alloc hz1 _; have EO := Lib.hid (es_one CO.out (HBP.out.below BO.out)); have LO := Lib.hid (hl_one CO.out HIN.out v1 (rs_ge hr1 hsz4)); clear hr1 hb1 hg1 ha1)
                  | (refine st_of rfl (rs_wp (.tmp 75) (.tmp 76) rfl RB.out rfl Aw want _ cw rfl rfl (HES.out.below BB.out) HBR.out (hl_want HRI.out HES.out BB.out _ (rs_ge RB.out hsz4)) (by have := HEW.out; simp; omega) (by simp; omega) ?_); intro v1 w1 hr1 hb1 hg1 ha1; rw [List.nil_append] at hr1; have BO := Lib.hid (BB.out.trans hb1); have RO := Lib.hid hr1; have q1 := (BO.out.cell (World.block_lt_of_cell? w4 _ q4)).trans q4; have hz1 := BO.out.size; have CO := Lib.hid (hg1.cell OB.out (by simp [Value.ownBlock])); have EO := Lib.hid (es_one CO.out (HBP.out.below BO.out)); have LO := Lib.hid (hl_one CO.out HIN.out v1 (rs_ge hr1 hsz4)); clear hr1 hb1 hg1 ha1)
                  | (refine st_of rfl (rs_wp (.tmp 75) (.tmp 76) rfl RC.out rfl Aw want _ cw rfl rfl (HES.out.below BC.out) HBR.out (hl_want HRI.out HES.out BC.out _ (rs_ge RC.out hsz4)) (by have := HEW.out; simp; omega) (by simp; omega) ?_); intro v1 w1 hr1 hb1 hg1 ha1; rw [List.nil_append] at hr1; have BO := Lib.hid (BC.out.trans hb1); have RO := Lib.hid hr1; have q1 := (BO.out.cell (World.block_lt_of_cell? w4 _ q4)).trans q4; have hz1 := BO.out.size; have CO := Lib.hid (hg1.cell OC.out (by simp [Value.ownBlock])); have EO := Lib.hid (es_one CO.out (HBP.out.below BO.out)); have LO := Lib.hid (hl_one CO.out HIN.out v1 (rs_ge hr1 hsz4)); clear hr1 hb1 hg1 ha1)
                  | (refine st_of rfl (rs_wp (.tmp 77) (.tmp 82) rfl RO.out rfl _ [p] 1 1 rfl rfl EO.out (fun e => by cases e) LO.out (by have := HEW.out; simp; omega) BO.out.size ?_); intro v2 w2' hr2 hb2 hg2 ha2; have R2 := Lib.hid hr2; have B2 := Lib.hid (BO.out.trans hb2); clear hr2 hb2 hg2 ha2)))
                all_goals
                  go_wp2_with fail
                  go_meet
                  exact ⟨R2.out, B2.out⟩
              case rest =>
                obtain ⟨hr5, hb5⟩ := hcut.out
                obtain ⟨A5, c5, hv5, _, _, _⟩ := hr5.open
                subst hv5
                have HS5 := Lib.hid (HS4.out.below hb5)
                have HW5 : Hid (Wt w wc (Nu F wr w4) c (.slice A5 (want ++ [p]).length c5) (want ++ [p])) := Wt.of hr5 hsz4 HL4.out hcl4
                have HLL := Lib.hid (llen_any HS5.out.lm)
                rw [HCT.out] at HLL
                have hlen : (want ++ [p]).length = want.length + 1 := by simp
                rw [hlen] at HW5 ⊢
                have hq : (((want.length + 1 : Nat) : Int) != ((want.length + 1 : Nat) : Int)) = false := by simp
                clear hr5 hb5 hcut hlen HCELL HES HRI HBR q4
                go_wp2_with fail
                refine HLL.out.mono ?_
                rintro e w5 ⟨rfl, rfl⟩
                go_wp2
                refine ⟨⟨k + 1, N + 2 + p.length, s', L', _, want ++ [p], by omega, by go_num, by go_num, HLR2.out, HW5.out, HS5.out⟩, by simp [intOf]; omega⟩
            · exact absurd HST.out.1 hl
      · obtain rfl : k = l.length := by omega
        obtain ⟨_, hsw, hsn, hlf, hr, hLn⟩ := HLR.out
        have hfw := sumL_few want
        have HEW : Hid (want.length ≤ 1500) := by simp only [Hid]; omega
        have HOP := Lib.hid (open_rst HS.out.pd hr.rest (fun q hq => by have := sumL_mem hq; omega))
        have HPN := Lib.hid hr.rest.pend
        obtain ⟨Aw, cw, hv, _, _, _⟩ := HWT.out.1.open
        subst hv
        clear hsw hsn hlf hr hLn hfw
        go_wp2_with fail
        refine HOP.out.mono ?_
        rintro e w4 ⟨hb4, c4, v4, rfl, hl4, hc4, hrs4⟩
        obtain ⟨A4, cc4, rfl, hes4, _, _⟩ := hrs4.open
        have HS4 := Lib.hid (HS.out.below hb4)
        obtain ⟨Aw', cw', hv, hesw, _, _⟩ := (HWT.out.1.below hb4).open
        injection hv with hv1 _ hv2
        subst hv1; subst hv2
        have HRO := Lib.hid (rows_any A4 want cc4 Aw want cw hes4 hesw (by have := HEW.out; omega))
        rw [show decide (want = want) = true by simp] at HRO
        clear hb4 hl4 hc4 hrs4 hes4 hesw HOP
        go_wp2_with fail
        refine HRO.out.mono ?_
        rintro e w5 ⟨rfl, hb5⟩
        have HS5 := Lib.hid (HS4.out.below hb5)
        have HWA := Lib.hid (waiting_any HS5.out.pd)
        rw [HPN.out] at HWA
        change Hid (Calls _ _ _ _ fun e w' => e = .returned (.int .i64 0) ∧ _) at HWA
        clear hb5
        go_wp2_with fail
        refine HWA.out.mono ?_
        rintro e w6 ⟨rfl, rfl⟩
        go_wp2_with fail
        refine (known5_any _).mono ?_
        rintro e w7 ⟨rfl, hb7⟩
        have HB7 := Lib.hid (HS5.out.bl.trans (hb7.mono HS5.out.bl.size))
        clear hb7
        go_wp2
        go_ret
        exact ⟨rfl, HB7.out⟩

set_option maxRecDepth 100000 in
theorem lifted (os : Os) (started : os.Started) (H : Type) (enc : TypeId × Value → H) :
    ReturnsInHanded {} Try.checked os 7 .any (Rows.redoOrderSpec.pre6 enc Try.prog Try.f7 Rows.redoOrderRow.domain false) (Rows.redoOrderSpec.post enc Try.prog Try.f7 false true false false) := by
  refine returnsInHanded_of_change_sized (C := Try.checked) own started (by kernel_rfl) Try.func7
    (ChangeSpec.witness6 (enc := enc) (C := Try.checked) false ⟨#[], #[.slice none 0 0, .slice none 0 0], []⟩ 8 (by kernel_rfl) (by kernel_rfl) (by kernel_rfl) (by kernel_rfl)) ?_
  intro W base args ds gs before hval0 hW hcnd hsz0 _
  have hsz : (DataW.weightsEach Try.prog (Try.f7.params.toList ++ Rows.redoOrderSpec.plain.varTypes Try.prog) (ds ++ gs)).all (· ≤ reachBytes) = true := hsz0
  have hval : ∀ (j : Nat) t v, Try.f7.params[j]? = some t → args[j]? = some v → Value.okWide Try.prog W .any base t v := hval0
  have hW' := hW
  obtain ⟨p, q, hA0, hV, rfl, hfz, hnd⟩ := hW
  have hA : DataW.TrodAll enc Try.prog W 0 (fun _ => true) true Try.f7.params.toList args.toList ds p := hA0
  rw [Try.params7] at hA hval hsz
  obtain ⟨v0, vs0, d0, ds0, p0, q0, hargs, rfl, rfl, h0, r0⟩ := trodAll_cons hA
  obtain ⟨v1, vs1, d1, ds1, p1, q1, rfl, rfl, rfl, h1, r1⟩ := trodAll_cons r0
  obtain ⟨rfl, rfl, rfl⟩ := trodAll_nil r1
  obtain rfl : args = #[v0, v1] := by cases args; simp_all
  obtain ⟨rfl, rfl⟩ := trodVars_none hV
  have k0 := h0
  have lt0 : ∀ x ∈ p0, x.block < W.heap.size := by obtain ⟨m, hm⟩ := k0; exact DataW.trod_lt m _ _ _ hm
  obtain ⟨a0, rfl, w0, x0⟩ := open_rows (hval 0 29 v0 rfl rfl) h0
  have k1 := h1
  have lt1 : ∀ x ∈ p1, x.block < W.heap.size := by obtain ⟨m, hm⟩ := k1; exact DataW.trod_lt m _ _ _ hm
  obtain ⟨a1, rfl, w1⟩ := open_bools (hval 1 37 v1 rfl rfl) h1
  have z0 : ∀ x ∈ a0.l, x.length ≤ 140737488351232 := x0.1 (fun q hq => by
    have := List.all_eq_true.1 hsz _ (DataW.weights_mem_each (j := 0) (t := 29) rfl rfl q hq)
    simpa using this)
  clear hA0 hval0
  refine (walk a0 a1 W w0 w1 z0).mono fun e W' ⟨he, bel⟩ => ?_
  subst he
  exact ⟨_, rfl, _, _, _, [], _, [], hW', trodAll_mk1 (shut_bool Try.underlying4 _), (trodAll_cons_mk (Below.trod laidOut (by kernel_rfl) (of_decide_eq_true (by kernel_rfl)) k0 bel lt0) (trodAll_cons_mk (Below.trod laidOut (by kernel_rfl) (of_decide_eq_true (by kernel_rfl)) k1 bel lt1) trodAll_mk0)), rfl, bel.frame _, fun h => by cases h⟩

theorem over : Rows.redoOrderRow.holds Try.pinned (OpenSpec.ofChange Rows.redoOrderSpec) :=
  OpenClaim.holds_of_wide 7 Try.f7 rfl rfl rfl rfl rfl rfl rfl ⟨rfl, rfl, rfl, rfl, rfl⟩ rfl rfl rfl rfl rfl (by kernel_rfl) Try.func7 (by kernel_rfl)
    (of_decide_eq_true (by kernel_rfl)) (by unfold Func.isWrapper; first | (rw [if_pos (by decide +kernel)]; kernel_rfl) | (rw [if_neg (by decide +kernel)]; exact ⟨rfl, rfl⟩))
    (fun os started H enc _ => lifted os started H enc)

theorem proved : Rows.RedoOrderSaid := over
#print axioms proved
end Go.Proofs.Ytembonenaoineaa.redoOrder
