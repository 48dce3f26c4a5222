/- The walk of RedoPlays. -/
import Derived.Test.YtembonenaoineaaJa
import Derived.Deep.RegionHeld3
import Derived.Deep.RegionLaw
import Derived.Deep.DeepCutAuto
import Derived.Deep.CutRange
import Derived.Deep.CutBlock
import Derived.Lib.QuietBelow
namespace Go.Proofs.Ytembonenaoineaa
set_option maxRecDepth 100000
set_option linter.unusedVariables false
open Go.ChangeShapes Go.WideShapes Go.ChangeAt Go.RowKit
open Lb (encI encIs encS In64 encI_len nxtI resI nxtS resS)
set_option maxHeartbeats 8000000 in
theorem plays_any (a0 : Int) (a1 : Sl ActV) (w : World) (w0 : (Lit.int .i64 a0).wf = true) (w1 : SlA w a1) (z1 : ∀ x ∈ a1.l, x.p.l.length ≤ 140737488351232 ∧ x.keep.l.length ≤ 140737488351232) :
    Calls Try.prog 3 #[.int .i64 a0, slv a1] w fun e w' => e = .returned (.bool true) ∧ Below w.heap.size w w' := by
  obtain ⟨A, l, c⟩ := a1
  have H1 : Hid (SlA w ⟨A, l, c⟩) := w1
  have HLO := Lib.hid (long5_any A l c w1 z1)
  obtain ⟨n0, n1⟩ := wf64 w0
  clear w1 w0 z1
  unfold slv
  simp only
  go_enter Try.func3, Try.ntmps3
  go_wp2_with fail
  refine HLO.out.mono ?_
  rintro e w1 ⟨bb, rfl, hb1, hfew⟩
  have HB1 := Lib.hid hb1
  have HFEW := Lib.hid hfew
  clear hb1 hfew HLO
  cases bb with
  | true =>
    go_wp2
    go_ret
    exact ⟨rfl, HB1.out⟩
  | false =>
    have HF : Hid (Few l 30) := HFEW.out rfl
    clear HFEW
    by_cases hneg : a0 < 0
    · go_wp2
      go_ret
      exact ⟨rfl, HB1.out⟩
    · by_cases hbig : 20 < a0
      · go_wp2
        go_ret
        exact ⟨rfl, HB1.out⟩
      · go_wp2_with fail
        refine (new_any a0 w1).mono ?_
        rintro e w2 ⟨a, rfl, hp2, hb2⟩
        have HP2 := Lib.hid hp2
        have HB2 := Lib.hid hb2
        clear hp2 hb2
        go_wp2_with fail
        refine (rnew_any a0 n0 n1 w2).mono ?_
        rintro e w3 ⟨b, rfl, hr3, hb3⟩
        have HT := Lib.hid (two_new HB1.out HP2.out HB2.out hr3 hb3)
        clear hr3 hb3 HP2 HB2 HB1
        generalize Nu (fun _ => False) w1 w2 = F0 at *
        generalize Nu (fun _ => False) w2 w3 = G0 at *
        have hlen : (nwS a0).now.length ≤ 20 := by rw [nwS_len]; unfold many; omega
        have HPN : Hid ((nwS a0).pend.length ≤ 20 * 0) := Nat.le_refl _
        have hok : DOk (nwS a0) := nwS_ok a0
        generalize nwS a0 = s at *
        clear hneg hbig
        by_cases h4 : s.now.length < 4
        · as_aux_lemma =>
            go_wp2_with fail
            refine (open_small HT.out.pd h4).mono ?_
            rintro e w' ⟨rfl, rfl⟩
            go_wp2_with fail
            refine (ropen_small HT.out.rd h4).mono ?_
            rintro e w' ⟨rfl, rfl⟩
            go_wp2_with fail
            go_loopw [13] (fun i wr => i = .int .i64 0 ∧ wr = w3) (fun _ _ => 0)
            case atStart => exact ⟨rfl, rfl⟩
            case round =>
              obtain ⟨rfl, rfl⟩ := hrel
              go_wp2_with fail
              refine (known5_any _).mono ?_
              rintro e w5 ⟨rfl, hb5⟩
              go_wp2
              go_ret
              exact ⟨rfl, HT.out.bl.trans (hb5.mono HT.out.bl.size)⟩
        · have h4' : 4 ≤ s.now.length := by omega
          clear h4
          go_wp2_with fail
          refine (ropen_any HT.out.pd h4').mono ?_
          rintro e w4 ⟨hb4, hm4⟩
          have HT4 := Lib.hid (HT.out.below hb4)
          cases hen : ents (cont s.now (newest s.now)) with
          | none =>
            as_aux_lemma =>
              rw [hen] at hm4
              subst hm4
              clear hb4
              have HRO := Lib.hid (rropen_any HT4.out.rd h4')
              go_wp2_with fail
              refine HRO.out.mono ?_
              rintro e w5 ⟨hb5, hm5⟩
              rw [hen] at hm5
              subst hm5
              have HT5 := Lib.hid (HT4.out.below hb5)
              clear hb5 HRO hen
              go_wp2_with fail
              go_loopw [13] (fun i wr => i = .int .i64 0 ∧ wr = w5) (fun _ _ => 0)
              case atStart => exact ⟨rfl, rfl⟩
              case round =>
                obtain ⟨rfl, rfl⟩ := hrel
                go_wp2_with fail
                refine (known5_any _).mono ?_
                rintro e w6 ⟨rfl, hb6⟩
                go_wp2
                go_ret
                exact ⟨rfl, HT5.out.bl.trans (hb6.mono HT5.out.bl.size)⟩
          | some es =>
            rw [hen] at hm4
            obtain ⟨c1, v1, rfl, hl1, hc1, hrs1⟩ := hm4
            have HRO := Lib.hid (rropen_any HT4.out.rd h4')
            have HB4 := Lib.hid hb4
            have HL1 := Lib.hid hl1
            have HC1 := Lib.hid hc1
            clear hb4 hl1 hc1 hrs1
            go_wp2_with fail
            refine HRO.out.mono ?_
            rintro e w5 ⟨hb5, hm5⟩
            rw [hen] at hm5
            obtain ⟨c2, v2, B, cb, rfl, hrl, hc2, hbs, hB, hrs2⟩ := hm5
            obtain ⟨R0, hduo⟩ := duo_open HT.out HB4.out HL1.out HC1.out hb5 hrl hc2 hbs hB
            have HD := Lib.hid hduo
            have HL5 := Lib.hid (Log5.opened (k := 0) hok h4' hlen HPN.out hen)
            clear hb5 hrl hc2 hbs hB hrs2 hduo HRO HB4 HL1 HC1 HT4 HT HPN
            generalize newest s.now = hd at *
            generalize es.length = cnt at *
            generalize cont s.now hd = bl at *
            clear hen hok
            go_wp2_with fail
            go_loopw [5, 6, 7, 10, 13] (fun d x av bv i wr => ∃ (k a c1 b c2 : Nat) (s : DS) (L : LG) (bl : List UInt8) (F R : Nat → Prop), k ≤ l.length ∧ k ≤ 30 ∧ d = .pointer (some ⟨a, 0, none⟩) ∧ x = .pointer (some ⟨b, 0, none⟩) ∧ av = .pointer (some ⟨c1, 0, none⟩) ∧ bv = .pointer (some ⟨c2, 0, none⟩) ∧ i = .int .i64 k ∧ Hid (Duo w wr F R a c1 b c2 s L s L bl) ∧ Hid (Log5 k s L bl)) (fun _ _ _ _ i _ => 30 - (intOf i).toNat)
            case atStart => exact ⟨0, a, c1, b, c2, s, ⟨hd, cnt, false⟩, bl, F0, R0, Nat.zero_le _, by omega, rfl, rfl, rfl, rfl, rfl, HD.out, HL5.out⟩
            case round =>
              clear HD HL5
              obtain ⟨k, a, c1, b, c2, s, L, bl, F, R, hkl, hk30, rfl, rfl, rfl, rfl, rfl, HD, HL⟩ := hrel
              by_cases hlt : k < l.length ∧ k < 30
              · obtain ⟨hlt, h30⟩ := hlt
                obtain ⟨ad, pk, hA, hpk, hin, hat⟩ := act_at H1.out HD.out.bel (k := k) hlt
                simp only at hA
                subst hA
                have hxb : SlB w l[k].p := hat.bp
                have hxk : SlT w l[k].keep := hat.bk
                have hxw := hat.wi
                obtain ⟨hx6, hx7⟩ := HF.out k hlt h30
                generalize l[k] = x at *
                obtain ⟨kd, xi, ⟨xA, xp, xc⟩, ⟨xK, xk, xkc⟩⟩ := x
                have c0 := hin.c0
                have HIN : Hid (∀ W, Below w.heap.size w W → W.cell? ⟨pk.block, pk.off + 1, none⟩ = some (.int .i64 xi) ∧ W.cell? ⟨pk.block, pk.off + 2, none⟩ = some (.slice xA xp.length xc) ∧ W.cell? ⟨pk.block, pk.off + 3, none⟩ = some (.slice xK xk.length xkc)) := fun W hW => ⟨(hat.in hW).c1, (hat.in hW).c2, (hat.in hW).c3⟩
                simp only at c0 hxb hxk hxw hx6 hx7
                obtain ⟨x0, x1⟩ := wf64 hxw
                have HXB : Hid (BS w xA xp xc) := hxb
                have HXK : Hid (Row .bool w xK xk) := hxk
                clear hin hat hxb hxk hxw
                go_upto_block 2 with fail
                go_cut [5, 6, 7, 10] (fun d x av bv wx => ∃ (a c1 b c2 : Nat) (s : DS) (L : LG) (bl : List UInt8) (F R : Nat → Prop), d = .pointer (some ⟨a, 0, none⟩) ∧ x = .pointer (some ⟨b, 0, none⟩) ∧ av = .pointer (some ⟨c1, 0, none⟩) ∧ bv = .pointer (some ⟨c2, 0, none⟩) ∧ Hid (Duo w wx F R a c1 b c2 s L s L bl) ∧ Hid (Log5 (k + 1) s L bl))
                case first =>
                  have hz10 : L.h.z ≤ 10000 := by have h1 := HL.out.hz; have h2 := HL.out.hz1; have h3 := bk_few HL.out.ok.few; omega
                  have hcnt := HL.out.cnt
                  have hpe := HL.out.pend
                  have hbl10 : bl.length ≤ 10000 := by have h1 := HL.out.hz; omega
                  by_cases hk1 : kd = 1
                  · as_aux_lemma =>
                      subst hk1
                      have HDd := Lib.hid HD.out.drew
                      have hS0 := HIN.out _ HDd.out.bel
                      have HAP := Lib.hid (append_any HDd.out.ps.pd HDd.out.ps.lm HDd.out.ps.cF xA xp xc (HXB.out.below HDd.out.bel) (by omega) HL.out.hk HL.out.hn hz10 (by omega) HL.out.four (by omega))
                      have HRA : Hid (∀ {wq : World} {F' : Nat → Prop} {s' : DS} {L' : LG}, Duo w wq F' R a c1 b c2 s' L' s L bl → Calls Try.prog 16 #[.pointer (some ⟨c2, 0, none⟩), .slice xA xp.length xc] wq (RLays w wq R b c2 (apE s L L.h (encS xp)) (apS s L L.h (encS xp)) (apL s L L.h L.cnt (encS xp)) (if apE s L L.h (encS xp) = 0 then bl ++ encS xp else bl))) := fun hd => rappend_any hd.rs HL.out.hk HL.out.hn HL.out.hz hbl10 HL.out.cont xA xp xc (HXB.out.below hd.bel) (by omega) (by omega) HL.out.four (by omega)
                      have HSTP : Hid (Log5 (k + 1) (apS s L L.h (encS xp)) (apL s L L.h L.cnt (encS xp)) (if apE s L L.h (encS xp) = 0 then bl ++ encS xp else bl)) := HL.out.step false xp (by omega)
                      generalize (if apE s L L.h (encS xp) = 0 then bl ++ encS xp else bl) = bl' at *
                      generalize apE s L L.h (encS xp) = E at *
                      generalize apS s L L.h (encS xp) = S' at *
                      generalize apL s L L.h L.cnt (encS xp) = L' at *
                      clear c0
                      go_wp2_with fail
                      go_region_held3 (fun W => W.cell? ⟨pk.block, pk.off + 1, none⟩ = some (.int .i64 xi) ∧ W.cell? ⟨pk.block, pk.off + 2, none⟩ = some (.slice xA xp.length xc) ∧ W.cell? ⟨pk.block, pk.off + 3, none⟩ = some (.slice xK xk.length xkc))
                        (first | exact hS0 | exact hS4 | exact hS5)
                        (first
                          | (go_at_call 16; refine (HRA.out HD4.out).mono ?_; rintro e w5 hrl; have HD5 := Lib.hid (HD4.out.rightL hrl); obtain ⟨rfl, _⟩ := hrl; have hS5 := HIN.out _ HD5.out.bel)
                          | (go_at_call 15; refine HAP.out.mono ?_; rintro e w4 hpu; have HD4 := Lib.hid (HDd.out.leftP hpu); obtain ⟨rfl, _⟩ := hpu; have hS4 := HIN.out _ HD4.out.bel))
                      clear hS0 hS4 hS5 HAP HRA
                      go_wp2_with fail
                      go_meet
                      exact ⟨_, _, _, _, _, _, _, _, _, rfl, rfl, rfl, rfl, HD5.out, HSTP.out⟩
                  · have hq1 : (kd == 1) = false := by simpa using hk1
                    by_cases hk2 : kd = 2
                    · as_aux_lemma =>
                        subst hk2
                        have HDd := Lib.hid HD.out.drew
                        have hS0 := HIN.out _ HDd.out.bel
                        have HAP := Lib.hid (reset_any HDd.out.ps.pd HDd.out.ps.lm HDd.out.ps.cF xA xp xc (HXB.out.below HDd.out.bel) (by omega) HL.out.hk HL.out.hn HL.out.four (by omega))
                        have HRA : Hid (∀ {wq : World} {F' : Nat → Prop} {s' : DS} {L' : LG}, Duo w wq F' R a c1 b c2 s' L' s L bl → Calls Try.prog 18 #[.pointer (some ⟨c2, 0, none⟩), .slice xA xp.length xc] wq (RLays w wq R b c2 (apE s L (oth L.h) (encS xp)) (apS s L (oth L.h) (encS xp)) (apL s L (oth L.h) 0 (encS xp)) (if apE s L (oth L.h) (encS xp) = 0 then [] ++ encS xp else bl))) := fun hd => rreset_any hd.rs HL.out.hk HL.out.hn xA xp xc (HXB.out.below hd.bel) (by omega) HL.out.four (by omega)
                        have HSTP : Hid (Log5 (k + 1) (apS s L (oth L.h) (encS xp)) (apL s L (oth L.h) 0 (encS xp)) (if apE s L (oth L.h) (encS xp) = 0 then [] ++ encS xp else bl)) := HL.out.step true xp (by omega)
                        generalize (if apE s L (oth L.h) (encS xp) = 0 then [] ++ encS xp else bl) = bl' at *
                        generalize apE s L (oth L.h) (encS xp) = E at *
                        generalize apS s L (oth L.h) (encS xp) = S' at *
                        generalize apL s L (oth L.h) 0 (encS xp) = L' at *
                        clear c0
                        go_wp2_with fail
                        go_region_held3 (fun W => W.cell? ⟨pk.block, pk.off + 1, none⟩ = some (.int .i64 xi) ∧ W.cell? ⟨pk.block, pk.off + 2, none⟩ = some (.slice xA xp.length xc) ∧ W.cell? ⟨pk.block, pk.off + 3, none⟩ = some (.slice xK xk.length xkc))
                          (first | exact hS0 | exact hS4 | exact hS5)
                          (first
                            | (go_at_call 18; refine (HRA.out HD4.out).mono ?_; rintro e w5 hrl; have HD5 := Lib.hid (HD4.out.rightL hrl); obtain ⟨rfl, _⟩ := hrl; have hS5 := HIN.out _ HD5.out.bel)
                            | (go_at_call 17; refine HAP.out.mono ?_; rintro e w4 hpu; have HD4 := Lib.hid (HDd.out.leftP hpu); obtain ⟨rfl, _⟩ := hpu; have hS4 := HIN.out _ HD4.out.bel))
                        clear hS0 hS4 hS5 HAP HRA
                        go_wp2_with fail
                        go_meet
                        exact ⟨_, _, _, _, _, _, _, _, _, rfl, rfl, rfl, rfl, HD5.out, HSTP.out⟩
                    · have hq2 : (kd == 2) = false := by simpa using hk2
                      by_cases hk4 : kd = 4
                      · as_aux_lemma =>
                          subst hk4
                          have HSTP := Lib.hid (HL.out.fuse (i := xi) x1)
                          have hS0 := (HIN.out _ HD.out.bel).1
                          clear c0
                          go_wp2_with fail
                          refine (fuse_any HD.out.ps.pd xi x0 x1).mono ?_
                          rintro e w4 hd4
                          have HD4 := Lib.hid (HD.out.leftD hd4)
                          obtain ⟨rfl, _, _⟩ := hd4
                          have hS4 := (HIN.out _ HD4.out.bel).1
                          obtain ⟨G4, hrd4, hdo4⟩ := HD4.out.rs.does
                          have HDO := Lib.hid (fun (v : Value) (e : Ending) (s' : DS) (w' : World) (hh : DoesR G4 w4 b v s' e w') => hdo4 hh)
                          have HRF := Lib.hid (rfuse_any hrd4 xi x0 x1)
                          clear hrd4 hdo4 hS0
                          go_wp2_with fail
                          refine HRF.out.mono ?_
                          rintro e w5 hd5
                          have hq5 := HDO.out _ _ _ _ hd5
                          have HD5 := Lib.hid (HD4.out.right hq5.1 hq5.2)
                          obtain ⟨rfl, _, _⟩ := hd5
                          clear hS4 HRF HDO hq5
                          go_wp2_with fail
                          go_meet
                          exact ⟨_, _, _, _, _, _, _, _, _, rfl, rfl, rfl, rfl, HD5.out, HSTP.out⟩
                      · have hq4 : (kd == 4) = false := by simpa using hk4
                        obtain ⟨G, htwo⟩ := HD.out.two
                        have HT := Lib.hid htwo
                        have HOK := Lib.hid HL.out.ok
                        have h4s := HL.out.four
                        have h20s := HL.out.few
                        clear htwo HD HL
                        go_upto_if 80 with fail
                        go_cut [5, 6] (fun d x wx => ∃ (a b : Nat) (s : DS) (F G : Nat → Prop), d = .pointer (some ⟨a, 0, none⟩) ∧ x = .pointer (some ⟨b, 0, none⟩) ∧ Hid (Two w wx a b s s F G) ∧ Hid (DOk s ∧ 4 ≤ s.now.length ∧ s.now.length ≤ 20 ∧ s.pend.length ≤ 20 * (k + 1)))
                        case first =>
                          by_cases hk5 : kd = 5
                          · as_aux_lemma =>
                              subst hk5
                              have HTd := Lib.hid HT.out.drew
                              have HPE : Hid (s.pend.length ≤ 1000) := by simp only [Hid]; omega
                              have HPE2 : Hid (DOk (wrS s xi xp) ∧ 4 ≤ (wrS s xi xp).now.length ∧ (wrS s xi xp).now.length ≤ 20 ∧ (wrS s xi xp).pend.length ≤ 20 * (k + 1)) := by
                                have h1 := wrS_pend s xi xp
                                have h2 := wrS_len s xi xp
                                exact ⟨wrS_ok HOK.out xi xp, by omega, by omega, by omega⟩
                              obtain ⟨q1, q2, q3⟩ := HIN.out _ HT.out.bl
                              clear c0
                              go_wp2_with fail
                              go_still_tail 11, (by kernel_rfl)
                              change wpList _ _ _ _ _ wr.drew
                              go_wp2_with fail
                              refine (write_any HTd.out.pd xi xA xp xc (HXB.out.below HTd.out.bl) (arg_apart HXB.out HTd.out.fF) HPE.out).mono ?_
                              rintro e w4 ⟨rfl, hp4, hc4⟩
                              have HT4 := Lib.hid (HTd.out.left hp4 hc4)
                              clear hp4 hc4 q1 q2 q3 HTd
                              obtain ⟨q1, q2, q3⟩ := HIN.out _ HT4.out.bl
                              have HT4d := Lib.hid HT4.out.drew
                              go_wp2_with fail
                              go_still_tail 11, (by kernel_rfl)
                              change wpList _ _ _ _ _ w4.drew
                              go_wp2_with fail
                              refine (rwrite_any HT4d.out.rd xi xA xp xc (HXB.out.below HT4d.out.bl) (arg_apart HXB.out HT4d.out.fG) HPE.out).mono ?_
                              rintro e w5 ⟨rfl, hp5, hc5⟩
                              have HT5 := Lib.hid (HT4d.out.right hp5 hc5)
                              clear hp5 hc5 q1 q2 q3
                              go_wp2_with fail
                              go_meet
                              exact ⟨_, _, _, _, _, rfl, rfl, HT5.out, HPE2.out⟩
                          · as_aux_lemma =>
                              have hq5 : (kd == 5) = false := by simpa using hk5
                              have HTd := Lib.hid HT.out.drew
                              have hS0 := HIN.out _ HTd.out.bl
                              have HP1000 : Hid (s.pend.length ≤ 1000) := by simp only [Hid]; omega
                              have HC := Lib.hid (crash_any HTd.out.pd xK xk xkc (row_below HXK.out HTd.out.bl) HP1000.out)
                              have HPE2 : Hid (DOk (crS s xk) ∧ 4 ≤ (crS s xk).now.length ∧ (crS s xk).now.length ≤ 20 ∧ (crS s xk).pend.length ≤ 20 * (k + 1)) := by
                                have h1 : (crS s xk).now.length = s.now.length := crL_len HOK.out xk
                                exact ⟨crS_ok HOK.out xk, by omega, by omega, Nat.zero_le _⟩
                              clear c0
                              go_wp2_with fail
                              go_region_held3 (fun W => W.cell? ⟨pk.block, pk.off + 1, none⟩ = some (.int .i64 xi) ∧ W.cell? ⟨pk.block, pk.off + 2, none⟩ = some (.slice xA xp.length xc) ∧ W.cell? ⟨pk.block, pk.off + 3, none⟩ = some (.slice xK xk.length xkc))
                                (first | exact hS0 | exact hS4 | exact hS5)
                                (first
                                  | (go_at_call 23; refine HC.out.mono ?_; rintro e w4 ⟨a4, rfl, hp4, hb4⟩; have HT4 := Lib.hid (HTd.out.newL hp4 hb4); have hS4 := HIN.out _ HT4.out.bl; clear hp4 hb4)
                                  | (go_at_call 24; refine (rcrash_any HT4.out.rd xK xk xkc (row_below HXK.out HT4.out.bl) HP1000.out).mono ?_; rintro e w5 ⟨b5, rfl, hp5, hb5⟩; have HT5 := Lib.hid (HT4.out.newR hp5 hb5); have hS5 := HIN.out _ HT5.out.bl; clear hp5 hb5))
                              clear hS0 hS4 hS5 HC
                              go_wp2_with fail
                              go_meet
                              exact ⟨_, _, _, _, _, rfl, rfl, HT5.out, HPE2.out⟩
                        case rest =>
                          clear HT HOK h4s h20s c0 HIN HXB HXK H1 hpk hz10 hcnt hpe hbl10
                          obtain ⟨a, b, s, F, G, rfl, rfl, HT, HS⟩ := hcut
                          have h4s := HS.out.2.1
                          go_wp2_with fail
                          refine (ropen_any HT.out.pd h4s).mono ?_
                          rintro e w4 ⟨hb4, hm4⟩
                          have HT4 := Lib.hid (HT.out.below hb4)
                          cases hen : ents (cont s.now (newest s.now)) with
                          | none =>
                            as_aux_lemma =>
                              rw [hen] at hm4
                              subst hm4
                              clear hb4
                              have HRO := Lib.hid (rropen_any HT4.out.rd h4s)
                              go_wp2_with fail
                              refine HRO.out.mono ?_
                              rintro e w5 ⟨hb5, hm5⟩
                              rw [hen] at hm5
                              subst hm5
                              have HT5 := Lib.hid (HT4.out.below hb5)
                              clear hb5 HRO hen
                              go_wp2_with fail
                              refine (rows_any none [] 0 none [] 0 (fun i hi => absurd hi (by simp)) (fun i hi => absurd hi (by simp)) (by simp)).mono ?_
                              rintro e w6 ⟨rfl, hb6⟩
                              have HT6 := Lib.hid (HT5.out.below hb6)
                              have hdd : decide (([] : List (List UInt8)) = []) = true := rfl
                              rw [hdd]
                              clear hb6 HT5
                              go_wp2_with fail
                              refine (known5_any _).mono ?_
                              rintro e w7 ⟨rfl, hb7⟩
                              go_wp2
                              go_ret
                              exact ⟨rfl, HT6.out.bl.trans (hb7.mono HT6.out.bl.size)⟩
                          | some es =>
                            as_aux_lemma =>
                              rw [hen] at hm4
                              obtain ⟨c1, v1, rfl, hl1, hc1, hrs1⟩ := hm4
                              have HRO := Lib.hid (rropen_any HT4.out.rd h4s)
                              have HB4 := Lib.hid hb4
                              have HL1 := Lib.hid hl1
                              have HC1 := Lib.hid hc1
                              obtain ⟨A1, e1, rfl, hes1, _, _⟩ := hrs1.open
                              have HE1 := Lib.hid hes1
                              clear hb4 hl1 hc1 hrs1 hes1
                              go_wp2_with fail
                              refine HRO.out.mono ?_
                              rintro e w5 ⟨hb5, hm5⟩
                              rw [hen] at hm5
                              obtain ⟨c2, v2, B, cb, rfl, hrl, hc2, hbs, hB, hrs2⟩ := hm5
                              obtain ⟨A2, e2, rfl, hes2, _, _⟩ := hrs2.open
                              obtain ⟨R0, hduo⟩ := duo_open HT.out HB4.out HL1.out HC1.out hb5 hrl hc2 hbs hB
                              have HD := Lib.hid hduo
                              have HL5 := Lib.hid (Log5.opened (k := k + 1) HS.out.1 h4s HS.out.2.2.1 HS.out.2.2.2 hen)
                              have hef := ents_few hen
                              have hcl := cont_len s.now (newest s.now)
                              have hnb := newest_bd s.now
                              have hbkf := bk_few HS.out.1.few
                              have HRW := Lib.hid (rows_any A1 es e1 A2 es e2 (HE1.out.below hb5) hes2 (by omega))
                              rw [show decide (es = es) = true from decide_eq_true rfl] at HRW
                              clear hb5 hrl hc2 hbs hB hrs2 hes2 hduo HRO HB4 HL1 HC1 HT4 HT HE1 hef hcl hnb hbkf
                              generalize newest s.now = hd at *
                              generalize hcn : es.length = cnt at *
                              generalize cont s.now hd = bl at *
                              clear hen hcn
                              go_wp2_with fail
                              refine HRW.out.mono ?_
                              rintro e w6 ⟨rfl, hb6⟩
                              have HD6 := Lib.hid (HD.out.below hb6)
                              clear hb6 HD HRW
                              go_wp2_with fail
                              go_meet
                              exact ⟨_, _, _, _, _, _, _, _, _, rfl, rfl, rfl, rfl, HD6.out, HL5.out⟩
                case rest =>
                  as_aux_lemma =>
                    clear HD HL c0 HIN HXB HXK H1 hpk
                    obtain ⟨a, c1, b, c2, s, L, bl, F, R, rfl, rfl, rfl, rfl, HD, HL⟩ := hcut
                    obtain ⟨⟨n0', k0', z0'⟩, cnt, dead⟩ := L
                    have hzz := HL.out.hz
                    have hz1 := HL.out.hz1
                    simp only at hzz
                    obtain ⟨G, B, cb, g1, g2, g3, g4, g5, g6⟩ := HD.out.rs.lays
                    have e5 := g4.cells.2.2.2.2.2.1
                    have HG1 := Lib.hid g1
                    have HG4 := Lib.hid g4
                    have hlc2 := g4.lt
                    have hcc : ∀ d os, (Sort.grow (redrawn wc d) os).cell? ⟨c2, 5, none⟩ = some (.int .i64 (cnt : Nat)) := fun d os => ((below_regrown wc d os).cell (p := ⟨c2, 5, none⟩) hlc2).trans e5
                    have HLN : Hid (∀ d os, Calls Try.prog 27 #[.pointer (some ⟨c1, 0, none⟩)] (Sort.grow (redrawn wc d) os) fun e w'' => e = .returned (.int .i64 (cnt : Nat)) ∧ ∃ p : Regrown, w'' = Sort.grow (redrawn wc p.d) p.os) := fun d os => Calls.regrown_of ((llen_any (LM.below HD.out.ps.lm (below_regrown wc d os))).mono fun e w' ⟨h1, h2⟩ => ⟨h1, h2 ▸ Below.refl _ _⟩)
                    have HRM : Hid (∀ d os, Calls Try.prog 28 #[.pointer (some ⟨c1, 0, none⟩)] (Sort.grow (redrawn wc d) os) fun e w'' => e = .returned (.int .i64 ((bk s.now * 64 - z0' : Nat) : Int)) ∧ ∃ p : Regrown, w'' = Sort.grow (redrawn wc p.d) p.os) := fun d os => Calls.regrown_of (room_any (LM.below HD.out.ps.lm (below_regrown wc d os)) (HD.out.ps.pd.below (below_regrown wc d os)) (by simp only; omega))
                    have HRR : Hid (∀ d os, Calls Try.prog 29 #[.pointer (some ⟨c2, 0, none⟩)] (Sort.grow (redrawn wc d) os) fun e w'' => e = .returned (.int .i64 ((bk s.now * 64 - z0' : Nat) : Int)) ∧ ∃ p : Regrown, w'' = Sort.grow (redrawn wc p.d) p.os) := fun d os => Calls.regrown_of (by rw [hzz]; exact rroom_any (HG4.out.below (below_regrown wc d os)) (HG1.out.below (below_regrown wc d os)) HL.out.four hz1)
                    have HAL : Hid (∀ d os, Calls Try.prog 30 #[.pointer (some ⟨a, 0, none⟩), .pointer (some ⟨b, 0, none⟩)] (Sort.grow (redrawn wc d) os) fun e w'' => e = .returned (.bool true) ∧ ∃ p : Regrown, w'' = Sort.grow (redrawn wc p.d) p.os) := fun d os => Calls.regrown_of (alike5_any (HD.out.ps.pd.below (below_regrown wc d os)) (HG1.out.below (below_regrown wc d os)))
                    clear g1 g2 g3 g4 g5 g6 hzz hz1 HG1 HG4
                    generalize bk s.now * 64 - z0' = rm at *
                    go_wp2_with fail
                    refine wp_region_quiet_below (by kernel_rfl) (by kernel_rfl) ?_
                    repeat (quiet_step ((first
                      | (go_at_call 27; with_reducible exact HLN.out _ _)
                      | (go_at_call 28; with_reducible exact HRM.out _ _)
                      | (go_at_call 29; with_reducible exact HRR.out _ _)
                      | (go_at_call 30; with_reducible exact HAL.out _ _))))
                    refine wpQuiet_nil ?_
                    intro _ hw'
                    obtain ⟨⟨dq, osq⟩, hw''⟩ := hw'
                    subst hw''
                    have HDq := Lib.hid (HD.out.below (below_regrown wc dq osq))
                    clear hcc HLN HRM HRR HAL HD e5
                    go_wp2
                    refine ⟨⟨k + 1, _, _, _, _, _, _, _, _, _, by omega, by omega, rfl, rfl, rfl, rfl, by go_num, HDq.out, HL.out⟩, by simp [intOf]; omega⟩
              · by_cases h60 : k < l.length
                · have h61 : 30 ≤ k := by omega
                  go_wp2_with fail
                  refine (known5_any _).mono ?_
                  rintro e w5 ⟨rfl, hb5⟩
                  go_wp2
                  go_ret
                  exact ⟨rfl, HD.out.bel.trans (hb5.mono HD.out.bel.size)⟩
                · go_wp2_with fail
                  refine (known5_any _).mono ?_
                  rintro e w5 ⟨rfl, hb5⟩
                  go_wp2
                  go_ret
                  exact ⟨rfl, HD.out.bel.trans (hb5.mono HD.out.bel.size)⟩
end Go.Proofs.Ytembonenaoineaa
