/- ligaturelaw7.CellSweeps, walked: it returns true for every slice of acts. No condition. -/
import Derived.Test.YtpjjpjdamieeeaaQe
namespace Go.Proofs.Ytpjjpjdamieeeaa
set_option maxRecDepth 100000
set_option linter.unusedVariables false
open Go.ChangeShapes Go.WideShapes Go.ChangeAt Go.RowKit
theorem cread_of {G : Nat → Prop} {w wr : World} {a x d y : Nat} {c c' : Ck} {l l' : List (Ver Int)} (h : Quad G w wr a x d y c l c' l') (t : Int) : Calls Try.prog 16 #[.pointer (some ⟨x, 0, none⟩), .pointer (some ⟨a, 0, none⟩), .int .i64 t] wr fun e w' => e = .returned (.tuple #[.int .i64 (Ver.rdV 0 (Ver.rdX c t l)), .bool (Ver.rdB (Ver.rdX c t l))]) ∧ Below wr.heap.size wr w' := by
  obtain ⟨o, h⟩ := h
  exact cread_any h.cc h.pc t
theorem ccheck_of {G : Nat → Prop} {w wr : World} {a x d y : Nat} {c c' : Ck} {l l' : List (Ver Int)} (h : Quad G w wr a x d y c l c' l') (t : Int) : Calls Try.prog 17 #[.pointer (some ⟨x, 0, none⟩), .pointer (some ⟨a, 0, none⟩), .int .i64 t] wr fun e w' => e = .returned (.int .i64 (Ver.chk c t l)) ∧ Below wr.heap.size wr w' := by
  obtain ⟨o, h⟩ := h
  exact ccheck_any h.cc h.pc t
theorem cspare_of {G : Nat → Prop} {w wr : World} {a x d y : Nat} {c c' : Ck} {l l' : List (Ver Int)} (h : Quad G w wr a x d y c l c' l') : Calls Try.prog 20 #[.pointer (some ⟨x, 0, none⟩), .pointer (some ⟨a, 0, none⟩)] wr fun e w' => e = .returned (.bool (Ver.spare c l)) ∧ Below wr.heap.size wr w' := by
  obtain ⟨o, h⟩ := h
  exact cspare_any h.cc h.pc
set_option maxHeartbeats 8000000 in
theorem sweeps_any {w : World} (A : Option Addr) (al : List Act7) (cp : Nat) (hs : SlK7 w ⟨A, al, cp⟩) :
    Calls Try.prog 4 #[.slice A al.length cp] w fun e w' => e = .returned (.bool true) ∧ Below w.heap.size w w' := by
  have HS := Lib.hid hs
  clear hs
  by_cases hbig : 10000 < al.length
  · have hb2 : (10000 : Int) < (al.length : Int) := by omega
    go_enter Try.func4, Try.ntmps4
    go_wp2
    go_ret
    exact ⟨rfl, Below.refl _ _⟩
  · have hb2 : (al.length : Int) ≤ 10000 := by omega
    have hlen : al.length ≤ 10000 := by omega
    clear hbig
    have HN := Lib.hid (begin7_any w)
    have DK := Lib.hid known7_any
    go_enter Try.func4, Try.ntmps4
    go_wp2_with (go_at_call 11; (with_reducible refine HN.out.mono ?_); rintro e w1 ⟨z, a, x, d, y, rfl, hwd⟩; have H1 := Lib.hid hwd; clear hwd)
    clear HN
    go_loopw [4] (fun i wr => ∃ (k : Nat) (c : Ck) (l : List (Ver Int)) (n : Int), k ≤ al.length ∧ k ≤ 60 ∧ i = .int .i64 (k : Nat) ∧ Hid (Gd c l n k) ∧ Hid (Wd w wr z a x d y c l n)) (fun i _ => 60 - (intOf i).toNat)
    case atStart => exact ⟨0, Ck.new, [], 0, Nat.zero_le _, by omega, rfl, gd_new, H1.out⟩
    case round =>
      obtain ⟨k, c, l, n, hk, hk60, rfl, HG, HD⟩ := hrel
      clear H1
      by_cases hlt : k < al.length ∧ k < 60
      · obtain ⟨hl1, hl2⟩ := hlt
        obtain ⟨ad, pk, hA, hpk, hcc⟩ := act7_at HS.out (k := k) hl1
        simp only at hA hcc hpk
        subst hA
        obtain ⟨q, hq⟩ : ∃ q, q = al[k] := ⟨_, rfl⟩
        rw [← hq] at hcc
        obtain ⟨c0, c1, c2, c3⟩ := hcc wr HD.out.q.all
        have HA := Lib.hid (act7_any HD.out HG.out.inv q.kind q.t q.v q.g (by have := HG.out.cn; omega) (by have := HG.out.cl; omega) (by have := HG.out.vl; omega))
        have HL := Lib.hid (gd_step HG.out HD.out.q.ok q.kind q.t q.v q.g)
        clear hq hcc
        obtain ⟨kd, tt, vv, gg⟩ := q
        simp only at c0 c1 c2 c3 HA HL
        go_wp2_with (go_at_call 12; (with_reducible refine HA.out.mono ?_); rintro e w2 ⟨rfl, h2⟩; have H2 := Lib.hid h2; clear h2)
        exact ⟨⟨k + 1, _, _, _, by omega, by omega, by go_num, HL.out, H2.out⟩, by simp [intOf]; omega⟩
      · have hend : ¬ k < al.length ∨ (k < al.length ∧ k = 60) := by omega
        obtain ⟨N, hN⟩ : ∃ N : Nat, n = N := ⟨n.toNat, by have := HG.out.n0; omega⟩
        have hN60 : N ≤ 60 := by have := HG.out.n1; have := HG.out.cl; omega
        have hl60 : l.length ≤ 60 := by have := HG.out.vl; omega
        subst hN
        obtain ⟨⟨k0, k1, k2, k3⟩, k4, _⟩ := HD.out.b.cells
        have HQ := Lib.hid HD.out.wq
        have HOK := Lib.hid HD.out.q.ok
        clear hlt HD
        rcases hend with h1 | ⟨h1, h2⟩
        · go_wp2
          clear k0 k1 k2 k3 k4
          obtain ⟨W0, hW0⟩ : ∃ W0, W0 = wr := ⟨_, rfl⟩
          rw [← hW0] at HQ
          rw [← hW0]
          clear hW0
          have HQB := Lib.hid (fun W (hW : Below W0.heap.size W0 W) => HQ.out.below hW)
          have HLV := Lib.hid (fun W (hW : Below W0.heap.size W0 W) t => q_rlive (HQ.out.below hW).1 t)
          have HRD := Lib.hid (fun W (hW : Below W0.heap.size W0 W) t => (cread_of (HQ.out.below hW).1 t))
          have HCH := Lib.hid (fun W (hW : Below W0.heap.size W0 W) t => (ccheck_of (HQ.out.below hW).1 t))
          go_loopw [5, 6, 7, 8, 9, 10, 11] (fun v5 v6 v7 t _ _ _ wr => ∃ k : Nat, k ≤ N ∧ t = .int .i64 ((k : Int) + 1) ∧ Hid (Tri W0 wr v5 v6 v7 (xsK c l k) (bsK c l k) (esK c l k))) (fun _ _ _ t _ _ _ _ => N + 1 - (intOf t).toNat)
          case atStart => exact ⟨0, Nat.zero_le _, rfl, Below.refl _ _, RW.nil _ _ _, RW.nil _ _ _, RW.nil _ _ _⟩
          case round =>
            obtain ⟨k, hkN, rfl, HT⟩ := hrel
            obtain ⟨⟨k0, k1, k2, k3⟩, k4, _⟩ := (HQB.out _ HT.out.bl).2.1.cells
            by_cases hlt : k < N
            · have hle : (k : Int) + 1 ≤ (N : Int) := by omega
              have CL := HLV.out _ HT.out.bl ((k : Int) + 1)
              cases hlv : c.isLive ((k : Int) + 1) with
              | false =>
                have HX : Hid (fv c l ((k : Int) + 1) = 0 ∧ fb c l ((k : Int) + 1) = false ∧ fe c l ((k : Int) + 1) = 0) := by simp only [Hid]; unfold fv fb fe; rw [hlv]; exact ⟨rfl, rfl, rfl⟩
                rw [hlv] at CL
                have CL := Lib.hid CL
                clear hlv
                obtain ⟨v5, c5, rfl⟩ := own_slice HT.out.r5.r
                obtain ⟨v6, c6, rfl⟩ := own_slice HT.out.r6.r
                obtain ⟨v7, c7, rfl⟩ := own_slice HT.out.r7.r
                go_upto_region 24 with (go_at_call 15; (with_reducible refine CL.out.mono ?_); rintro e w4 ⟨rfl, rfl⟩)
                obtain ⟨WX, hWX⟩ : ∃ WX, WX = wr := ⟨_, rfl⟩
                rw [← hWX] at HT
                rw [← hWX]
                have TX := HT
                clear hWX k0 k1 k2 k3 k4 HT CL
                have C5 := Lib.hid (cell_one_new WX (.int .i64 0) 3)
                have R5 := Lib.hid (TX.out.below ((Below.refl WX.heap.size WX).alloc (Nat.le_refl _) (.cells #[.int .i64 0] 3))).r5.r
                go_wp2_with (first
                  | (refine wp_own 36 3 _ 1 8 Try.underlying36 infoI rfl (by decide) (by decide) rfl (.tmp 82) (.tmp 84) rfl _ _ (xsK c l k) R5.out rfl ⟨WX.heap.size, 0, none⟩ 1 1 [.int .i64 0] rfl rfl C5.out (fun u hu => by rw [List.mem_singleton] at hu; subst hu; rfl) (by rw [xsK_len]; omega) ?_; intro v5' w5 hr5 hg5 ho5; have T5 := Lib.hid (TX.out.app5 _ hr5 hg5 ho5); have C6 := Lib.hid (cell_one_new w5 (.bool false) 4); have R6 := Lib.hid (T5.out.below ((Below.refl w5.heap.size w5).alloc (Nat.le_refl _) (.cells #[.bool false] 4))).r6.r; clear hr5 hg5 ho5)
                  | (refine wp_own 37 4 _ 1 1 Try.underlying37 infoB rfl (by decide) (by decide) rfl (.tmp 86) (.tmp 88) rfl _ _ (bsK c l k) R6.out rfl ⟨w5.heap.size, 0, none⟩ 1 1 [.bool false] rfl rfl C6.out (fun u hu => by rw [List.mem_singleton] at hu; subst hu; rfl) (by rw [bsK_len]; omega) ?_; intro v6' w6 hr6 hg6 ho6; have T6 := Lib.hid (T5.out.app6 _ hr6 hg6 ho6); have C7 := Lib.hid (cell_one_new w6 (.int .i64 0) 39); have R7 := Lib.hid (T6.out.below ((Below.refl w6.heap.size w6).alloc (Nat.le_refl _) (.cells #[.int .i64 0] 39))).r7.r; clear hr6 hg6 ho6)
                  | (refine wp_own 38 39 _ 1 8 Try.underlying38 infoE rfl (by decide) (by decide) rfl (.tmp 90) (.tmp 92) rfl _ _ (esK c l k) R7.out rfl ⟨w6.heap.size, 0, none⟩ 1 1 [.int .i64 0] rfl rfl C7.out (fun u hu => by rw [List.mem_singleton] at hu; subst hu; rfl) (by rw [esK_len]; omega) ?_; intro v7' w7 hr7 hg7 ho7; have T7 := Lib.hid (T6.out.app7 _ hr7 hg7 ho7); clear hr7 hg7 ho7))
                refine ⟨⟨k + 1, by omega, by go_num, ?_⟩, by simp [intOf]; omega⟩
                rw [xsK_succ, bsK_succ, esK_succ, HX.out.1, HX.out.2.1, HX.out.2.2]
                exact T7.out
              | true =>
                obtain ⟨vv, hvv⟩ : ∃ vv, vv = Ver.rdV 0 (Ver.rdX c ((k : Int) + 1) l) := ⟨_, rfl⟩
                obtain ⟨vb, hvb⟩ : ∃ vb, vb = Ver.rdB (Ver.rdX c ((k : Int) + 1) l) := ⟨_, rfl⟩
                obtain ⟨ve, hve⟩ : ∃ ve, ve = Ver.chk c ((k : Int) + 1) l := ⟨_, rfl⟩
                have HX : Hid (fv c l ((k : Int) + 1) = vv ∧ fb c l ((k : Int) + 1) = vb ∧ fe c l ((k : Int) + 1) = ve) := by simp only [Hid]; unfold fv fb fe; rw [hlv, hvv, hvb, hve]; exact ⟨rfl, rfl, rfl⟩
                have CR := HRD.out _ (HT.out.bl.drew) ((k : Int) + 1)
                have CC := fun W (hW : Below W0.heap.size W0 W) => HCH.out W hW ((k : Int) + 1)
                rw [← hvv, ← hvb] at CR
                rw [← hve] at CC
                rw [hlv] at CL
                have CL := Lib.hid CL
                have CR := Lib.hid CR
                have CC := Lib.hid CC
                clear hlv hvv hvb hve
                obtain ⟨v5, c5, rfl⟩ := own_slice HT.out.r5.r
                obtain ⟨v6, c6, rfl⟩ := own_slice HT.out.r6.r
                obtain ⟨v7, c7, rfl⟩ := own_slice HT.out.r7.r
                have HSS := Lib.hid (fun W (hW : Below W0.heap.size W0 W) => (HQB.out W hW).2.1.cells.1)
                go_upto_region 22 with (go_at_call 15; (with_reducible refine CL.out.mono ?_); rintro e w4 ⟨rfl, rfl⟩)
                have hS0 := HSS.out _ HT.out.bl.drew
                go_region_held3 (fun V => V.cell? ⟨z, 0, none⟩ = some (.pointer (some ⟨a, 0, none⟩)) ∧ V.cell? ⟨z, 1, none⟩ = some (.pointer (some ⟨x, 0, none⟩)) ∧ V.cell? ⟨z, 2, none⟩ = some (.pointer (some ⟨d, 0, none⟩)) ∧ V.cell? ⟨z, 3, none⟩ = some (.pointer (some ⟨y, 0, none⟩))) (first | exact hS0 | exact hS1)
                  (first | (go_at_call 16; (with_reducible refine CR.out.mono ?_); rintro e w5 ⟨rfl, hb5⟩; have HB5 := Lib.hid hb5; have hS1 := HSS.out _ (HT.out.bl.drew.trans (hb5.mono HT.out.bl.size)); clear hb5))
                clear hS0 hS1 CR CL
                have HT5 := Lib.hid ((HT.out.below (Below.refl _ _).drew).below HB5.out)
                go_upto_region 23 with fail
                have hS0 := HSS.out _ HT5.out.bl.drew
                have CC2 := Lib.hid (CC.out _ HT5.out.bl.drew)
                go_region_held3 (fun V => V.cell? ⟨z, 0, none⟩ = some (.pointer (some ⟨a, 0, none⟩)) ∧ V.cell? ⟨z, 1, none⟩ = some (.pointer (some ⟨x, 0, none⟩)) ∧ V.cell? ⟨z, 2, none⟩ = some (.pointer (some ⟨d, 0, none⟩)) ∧ V.cell? ⟨z, 3, none⟩ = some (.pointer (some ⟨y, 0, none⟩))) (first | exact hS0 | exact hS1)
                  (first | (go_at_call 17; (with_reducible refine CC2.out.mono ?_); rintro e w6 ⟨rfl, hb6⟩; have HB6 := Lib.hid hb6; have hS1 := HSS.out _ (HT5.out.bl.drew.trans (hb6.mono HT5.out.bl.size)); clear hb6))
                clear hS0 hS1 CC CC2 k0 k1 k2 k3 k4
                have TX := Lib.hid ((HT5.out.below (Below.refl _ _).drew).below HB6.out)
                clear HT HT5 HB5 HB6
                obtain ⟨WX, hWX⟩ : ∃ WX, WX = w6 := ⟨_, rfl⟩
                rw [← hWX] at TX
                rw [← hWX]
                clear hWX
                go_upto_region 24 with fail
                have C5 := Lib.hid (cell_one_new WX (.int .i64 vv) 3)
                have R5 := Lib.hid (TX.out.below ((Below.refl WX.heap.size WX).alloc (Nat.le_refl _) (.cells #[.int .i64 vv] 3))).r5.r
                go_wp2_with (first
                  | (refine wp_own 36 3 _ 1 8 Try.underlying36 infoI rfl (by decide) (by decide) rfl (.tmp 82) (.tmp 84) rfl _ _ (xsK c l k) R5.out rfl ⟨WX.heap.size, 0, none⟩ 1 1 [.int .i64 vv] rfl rfl C5.out (fun u hu => by rw [List.mem_singleton] at hu; subst hu; rfl) (by rw [xsK_len]; omega) ?_; intro v5' w5 hr5 hg5 ho5; have T5 := Lib.hid (TX.out.app5 _ hr5 hg5 ho5); have C6 := Lib.hid (cell_one_new w5 (.bool vb) 4); have R6 := Lib.hid (T5.out.below ((Below.refl w5.heap.size w5).alloc (Nat.le_refl _) (.cells #[.bool vb] 4))).r6.r; clear hr5 hg5 ho5)
                  | (refine wp_own 37 4 _ 1 1 Try.underlying37 infoB rfl (by decide) (by decide) rfl (.tmp 86) (.tmp 88) rfl _ _ (bsK c l k) R6.out rfl ⟨w5.heap.size, 0, none⟩ 1 1 [.bool vb] rfl rfl C6.out (fun u hu => by rw [List.mem_singleton] at hu; subst hu; rfl) (by rw [bsK_len]; omega) ?_; intro v6' w6 hr6 hg6 ho6; have T6 := Lib.hid (T5.out.app6 _ hr6 hg6 ho6); have C7 := Lib.hid (cell_one_new w6 (.int .i64 ve) 39); have R7 := Lib.hid (T6.out.below ((Below.refl w6.heap.size w6).alloc (Nat.le_refl _) (.cells #[.int .i64 ve] 39))).r7.r; clear hr6 hg6 ho6)
                  | (refine wp_own 38 39 _ 1 8 Try.underlying38 infoE rfl (by decide) (by decide) rfl (.tmp 90) (.tmp 92) rfl _ _ (esK c l k) R7.out rfl ⟨w6.heap.size, 0, none⟩ 1 1 [.int .i64 ve] rfl rfl C7.out (fun u hu => by rw [List.mem_singleton] at hu; subst hu; rfl) (by rw [esK_len]; omega) ?_; intro v7' w7 hr7 hg7 ho7; have T7 := Lib.hid (T6.out.app7 _ hr7 hg7 ho7); clear hr7 hg7 ho7))
                refine ⟨⟨k + 1, by omega, by go_num, ?_⟩, by simp [intOf]; omega⟩
                rw [xsK_succ, bsK_succ, esK_succ, HX.out.1, HX.out.2.1, HX.out.2.2]
                exact T7.out
            · obtain rfl : k = N := by omega
              have hle : ¬ (k : Int) + 1 ≤ (k : Int) := by omega
              have H4 := Lib.hid (W4.start HQ.out HT.out)
              have CLn := Lib.hid (q_len H4.out.q)
              have HIN := Lib.hid HG.out.inv
              go_wp2_with (go_at_call 18; (with_reducible refine CLn.out.mono ?_); rintro e w4 ⟨rfl, rfl⟩)
              obtain ⟨W1, hW1⟩ : ∃ W1, W1 = wr := ⟨_, rfl⟩
              rw [← hW1] at H4
              rw [← hW1]
              clear hW1 k0 k1 k2 k3 k4 CLn HT HQB HLV HRD HCH HQ HG
              obtain ⟨v5, hv5⟩ : ∃ v5, v5 = u5 := ⟨_, rfl⟩
              obtain ⟨v6, hv6⟩ : ∃ v6, v6 = u6 := ⟨_, rfl⟩
              obtain ⟨v7, hv7⟩ : ∃ v7, v7 = u7 := ⟨_, rfl⟩
              rw [← hv5, ← hv6, ← hv7] at H4
              rw [← hv5, ← hv6, ← hv7]
              clear hv5 hv6 hv7
              go_loopw [13] (fun kk wr => ∃ j : Nat, j ≤ l.length ∧ kk = .int .i64 (j : Nat) ∧ Hid ((swN c j l).length = l.length - j) ∧ Hid (W4 w W0 W1 wr z a x d y c (swN c j l) l (k : Nat) v5 v6 v7 (xsK c l k) (bsK c l k) (esK c l k))) (fun kk _ => l.length + 1 - (intOf kk).toNat)
              case atStart => exact ⟨0, Nat.zero_le _, rfl, rfl, H4.out⟩
              case round =>
                obtain ⟨j, hj, rfl, HLn, H5⟩ := hrel
                clear H4
                have HDr := Lib.hid H5.out.drew
                have CS := HDr.out.to (q_sweep HDr.out.q)
                have hjl : (j : Int) ≤ (l.length : Int) := by omega
                have hS0 := HDr.out.wb.cells.1
                cases hsp : Ver.spare c (swN c j l) with
                | true =>
                  rw [hsp] at CS
                  have CS := Lib.hid CS
                  have HL2 := Lib.hid (Ver.sweep_len hsp)
                  have HJ1 : Hid (j + 1 ≤ l.length) := by simp only [Hid]; have h1 := HL2.out; have h2 := HLn.out; omega
                  clear hsp
                  go_wp2_with fail
                  go_region_held3 (fun V => V.cell? ⟨z, 0, none⟩ = some (.pointer (some ⟨a, 0, none⟩)) ∧ V.cell? ⟨z, 1, none⟩ = some (.pointer (some ⟨x, 0, none⟩)) ∧ V.cell? ⟨z, 2, none⟩ = some (.pointer (some ⟨d, 0, none⟩)) ∧ V.cell? ⟨z, 3, none⟩ = some (.pointer (some ⟨y, 0, none⟩))) (first | exact hS0 | exact hS1)
                    (first | (go_at_call 19; (with_reducible refine CS.out.mono ?_); rintro e w5 ⟨rfl, h5⟩; have H6 := Lib.hid h5; have hS1 := h5.wb.cells.1; clear h5))
                  clear hS0 hS1
                  go_wp2
                  have hj1 := HJ1.out
                  refine ⟨⟨j + 1, hj1, by go_num, ?_, H6.out⟩, by simp [intOf]; omega⟩
                  show (Ver.swS c (swN c j l)).length = l.length - (j + 1)
                  have h1 := HL2.out
                  have h2 := HLn.out
                  omega
                | false =>
                  have hsw : Ver.swS c (swN c j l) = swN c j l := by unfold Ver.swS; rw [hsp]; rfl
                  rw [hsp, hsw] at CS
                  have CS := Lib.hid CS
                  have HSP := Lib.hid hsp
                  have HIM := Lib.hid (swN_inv HIN.out j)
                  have HRD := Lib.hid (fun t (ht : c.isLive t = true) => swN_rd HOK.out ht l j)
                  clear hsp hsw
                  generalize swN c j l = m at *
                  go_wp2_with fail
                  go_region_held3 (fun V => V.cell? ⟨z, 0, none⟩ = some (.pointer (some ⟨a, 0, none⟩)) ∧ V.cell? ⟨z, 1, none⟩ = some (.pointer (some ⟨x, 0, none⟩)) ∧ V.cell? ⟨z, 2, none⟩ = some (.pointer (some ⟨d, 0, none⟩)) ∧ V.cell? ⟨z, 3, none⟩ = some (.pointer (some ⟨y, 0, none⟩))) (first | exact hS0 | exact hS1)
                    (first | (go_at_call 19; (with_reducible refine CS.out.mono ?_); rintro e w5 ⟨rfl, h5⟩; have H6 := Lib.hid h5; have hS1 := h5.wb.cells.1; clear h5))
                  clear hS0 hS1 CS
                  have HD6 := Lib.hid H6.out.drew
                  have hS0 := HD6.out.wb.cells.1
                  have CL1 := Lib.hid (q_len HD6.out.q)
                  have CS1 := cspare_of HD6.out.q
                  rw [HSP.out] at CS1
                  have CS1 := Lib.hid CS1
                  have hjn : ¬ (l.length : Int) < (j : Int) := by omega
                  have hjn2 : ¬ l.length < j := by omega
                  have hln := HLn.out
                  have hsub : IntKind.i64.wrap ((l.length : Int) - (j : Int)) = ((m.length : Nat) : Int) := by rw [show (l.length : Int) - (j : Int) = ((m.length : Nat) : Int) by omega]; exact wrapI (by omega)
                  go_wp2_with fail
                  go_region_held3 (fun V => V.cell? ⟨z, 0, none⟩ = some (.pointer (some ⟨a, 0, none⟩)) ∧ V.cell? ⟨z, 1, none⟩ = some (.pointer (some ⟨x, 0, none⟩)) ∧ V.cell? ⟨z, 2, none⟩ = some (.pointer (some ⟨d, 0, none⟩)) ∧ V.cell? ⟨z, 3, none⟩ = some (.pointer (some ⟨y, 0, none⟩))) (first | exact hS0 | exact hS1)
                    (first
                      | (go_at_call 18; (with_reducible refine CL1.out.mono ?_); rintro e w6 ⟨rfl, rfl⟩)
                      | (go_at_call 20; (with_reducible refine CS1.out.mono ?_); rintro e w7 ⟨rfl, hb7⟩; have H7 := Lib.hid (HD6.out.below hb7); have hS1 := H7.out.wb.cells.1; clear hb7))
                  clear hS0 hS1 CL1 CS1
                  go_wp2
                  obtain ⟨W5, hW5⟩ : ∃ W5, W5 = w7 := ⟨_, rfl⟩
                  rw [← hW5] at H7
                  rw [← hW5]
                  clear hW5 HD6 H6 HDr H5 hsub
                  have HB4 := Lib.hid (fun W (hW : Below W5.heap.size W5 W) => H7.out.below hW)
                  go_loopw [14, 15, 16] (fun t _ _ wr => ∃ i : Nat, i ≤ k ∧ t = .int .i64 ((i : Int) + 1) ∧ Hid (Below W5.heap.size W5 wr)) (fun t _ _ _ => k + 1 - (intOf t).toNat)
                  case atStart => exact ⟨0, Nat.zero_le _, rfl, Below.refl _ _⟩
                  case round =>
                    obtain ⟨i, hik, rfl, HB⟩ := hrel
                    have H8 := Lib.hid (HB4.out _ HB.out)
                    obtain ⟨⟨k0, k1, k2, k3⟩, k4, _⟩ := H8.out.wb.cells
                    by_cases hlt : i < k
                    · have hle2 : (i : Int) + 1 ≤ (k : Int) := by omega
                      have CL := q_rlive H8.out.q ((i : Int) + 1)
                      cases hlv : c.isLive ((i : Int) + 1) with
                      | false =>
                        rw [hlv] at CL
                        have CL := Lib.hid CL
                        clear hlv
                        go_wp2_with (go_at_call 15; (with_reducible refine CL.out.mono ?_); rintro e w4 ⟨rfl, rfl⟩)
                        go_roundw
                        case rel => exact ⟨i + 1, by omega, by go_num, HB.out⟩
                        case measure => simp [intOf]; omega
                      | true =>
                        rw [hlv] at CL
                        have CL := Lib.hid CL
                        obtain ⟨vv, hvv⟩ : ∃ vv, vv = Ver.rdV 0 (Ver.rdX c ((i : Int) + 1) l) := ⟨_, rfl⟩
                        obtain ⟨vb, hvb⟩ : ∃ vb, vb = Ver.rdB (Ver.rdX c ((i : Int) + 1) l) := ⟨_, rfl⟩
                        obtain ⟨ve, hve⟩ : ∃ ve, ve = Ver.chk c ((i : Int) + 1) l := ⟨_, rfl⟩
                        have HX : Hid (fv c l ((i : Int) + 1) = vv ∧ fb c l ((i : Int) + 1) = vb ∧ fe c l ((i : Int) + 1) = ve) := by simp only [Hid]; unfold fv fb fe; rw [hlv, hvv, hvb, hve]; exact ⟨rfl, rfl, rfl⟩
                        obtain ⟨r1, r2, r3⟩ := HRD.out _ hlv
                        have H9 := Lib.hid H8.out.drew
                        have CR := cread_of H9.out.q ((i : Int) + 1)
                        rw [r1, r2, ← hvv, ← hvb] at CR
                        have CR := Lib.hid CR
                        have CC := fun W (hW : Below W5.heap.size W5 W) => ccheck_of (HB4.out W hW).q ((i : Int) + 1)
                        rw [r3, ← hve] at CC
                        have CC := Lib.hid CC
                        obtain ⟨g5, c5, e5, _⟩ := rw_at H8.out.r5 (xsK_at c l k hlt)
                        obtain ⟨g6, c6, e6, _⟩ := rw_at H8.out.r6 (bsK_at c l k hlt)
                        obtain ⟨g7, c7, e7, _⟩ := rw_at H8.out.r7 (esK_at c l k hlt)
                        rw [xsK_len] at e5
                        rw [bsK_len] at e6
                        rw [esK_len] at e7
                        have HSS : Hid (∀ W, Below W5.heap.size W5 W → (W.cell? ⟨z, 0, none⟩ = some (.pointer (some ⟨a, 0, none⟩)) ∧ W.cell? ⟨z, 1, none⟩ = some (.pointer (some ⟨x, 0, none⟩)) ∧ W.cell? ⟨z, 2, none⟩ = some (.pointer (some ⟨d, 0, none⟩)) ∧ W.cell? ⟨z, 3, none⟩ = some (.pointer (some ⟨y, 0, none⟩))) ∧ (W.cell? ⟨g5, i, none⟩ = some (.int .i64 vv) ∧ W.cell? ⟨g6, i, none⟩ = some (.bool vb) ∧ W.cell? ⟨g7, i, none⟩ = some (.int .i64 ve))) := fun W hW => by
                          have h := HB4.out W hW
                          refine ⟨h.wb.cells.1, ?_, ?_, ?_⟩
                          · obtain ⟨g, cp, e, hc⟩ := rw_at h.r5 (xsK_at c l k hlt)
                            rw [e5] at e
                            injection e with e; injection e with e; injection e with e
                            rw [e, hc, HX.out.1]
                          · obtain ⟨g, cp, e, hc⟩ := rw_at h.r6 (bsK_at c l k hlt)
                            rw [e6] at e
                            injection e with e; injection e with e; injection e with e
                            rw [e, hc, HX.out.2.1]
                          · obtain ⟨g, cp, e, hc⟩ := rw_at h.r7 (esK_at c l k hlt)
                            rw [e7] at e
                            injection e with e; injection e with e; injection e with e
                            rw [e, hc, HX.out.2.2]
                        have hwi : IntKind.i64.wrap (i : Int) = (i : Int) := wrapI (by omega)
                        have hsi : (i : Int) + 1 - 1 = (i : Int) := by omega
                        have hi0 : (0 : Int) ≤ (i : Int) := by omega
                        have hik2 : (i : Int) < (k : Int) := by omega
                        clear hlv hvv hvb hve r1 r2 r3 HX
                        subst e5
                        subst e6
                        subst e7
                        go_upto_region 34 with (go_at_call 15; (with_reducible refine CL.out.mono ?_); rintro e w4 ⟨rfl, rfl⟩)
                        have hS0 := (HSS.out _ HB.out.drew).1
                        go_region_held3 (fun V => V.cell? ⟨z, 0, none⟩ = some (.pointer (some ⟨a, 0, none⟩)) ∧ V.cell? ⟨z, 1, none⟩ = some (.pointer (some ⟨x, 0, none⟩)) ∧ V.cell? ⟨z, 2, none⟩ = some (.pointer (some ⟨d, 0, none⟩)) ∧ V.cell? ⟨z, 3, none⟩ = some (.pointer (some ⟨y, 0, none⟩))) (first | exact hS0 | exact hS1)
                          (first | (go_at_call 16; (with_reducible refine CR.out.mono ?_); rintro e w5 ⟨rfl, hb5⟩; have HB5 := Lib.hid (HB.out.drew.trans (hb5.mono HB.out.size)); have hS1 := (HSS.out _ HB5.out).1; clear hb5))
                        clear hS0 hS1 CR CL
                        go_upto_region 35 with fail
                        have hS0 := HSS.out _ HB5.out.drew
                        have CC2 := Lib.hid (CC.out _ HB5.out.drew)
                        go_region_held3 (fun V => (V.cell? ⟨z, 0, none⟩ = some (.pointer (some ⟨a, 0, none⟩)) ∧ V.cell? ⟨z, 1, none⟩ = some (.pointer (some ⟨x, 0, none⟩)) ∧ V.cell? ⟨z, 2, none⟩ = some (.pointer (some ⟨d, 0, none⟩)) ∧ V.cell? ⟨z, 3, none⟩ = some (.pointer (some ⟨y, 0, none⟩))) ∧ (V.cell? ⟨g5, i, none⟩ = some (.int .i64 vv) ∧ V.cell? ⟨g6, i, none⟩ = some (.bool vb) ∧ V.cell? ⟨g7, i, none⟩ = some (.int .i64 ve))) (first | exact hS0 | exact hS1)
                          (first | (go_at_call 17; (with_reducible refine CC2.out.mono ?_); rintro e w6 ⟨rfl, hb6⟩; have HB6 := Lib.hid (HB5.out.drew.trans (hb6.mono HB5.out.size)); have hS1 := HSS.out _ HB6.out; clear hb6))
                        clear hS0 hS1 k0 k1 k2 k3 k4
                        go_wp2
                        go_roundw
                        case rel => exact ⟨i + 1, by omega, by go_num, HB6.out⟩
                        case measure => simp [intOf]; omega
                    · obtain rfl : i = k := by omega
                      have hle2 : ¬ (i : Int) + 1 ≤ (i : Int) := by omega
                      have CN := Lib.hid (q_rcount H8.out.q)
                      have CL1 := Lib.hid (q_len H8.out.q)
                      by_cases hc0 : c.cnt = 0
                      · have hm1 := Ver.few hc0 HIM.out HSP.out
                        have hm2 : (m.length : Int) ≤ 1 := by omega
                        rw [hc0] at CN
                        clear hm1
                        go_wp2_with (first
                          | (go_at_call 21; (with_reducible refine CN.out.mono ?_); rintro e w4 ⟨rfl, rfl⟩)
                          | (go_at_call 18; (with_reducible refine CL1.out.mono ?_); rintro e w6 ⟨rfl, rfl⟩)
                          | (go_at_call 14; (with_reducible refine (DK.out _).mono ?_); rintro e w9 ⟨rfl, hb9⟩; have H10 := Lib.hid (H8.out.below hb9); clear hb9))
                        go_ret
                        exact ⟨rfl, H10.out.q.all⟩
                      · have hc1 : (0 : Int) < (c.cnt : Int) := by omega
                        go_wp2_with (first
                          | (go_at_call 21; (with_reducible refine CN.out.mono ?_); rintro e w4 ⟨rfl, rfl⟩)
                          | (go_at_call 14; (with_reducible refine (DK.out _).mono ?_); rintro e w9 ⟨rfl, hb9⟩; have H10 := Lib.hid (H8.out.below hb9); clear hb9))
                        go_ret
                        exact ⟨rfl, H10.out.q.all⟩


        · subst h2
          go_wp2
          clear k0 k1 k2 k3 k4
          obtain ⟨W0, hW0⟩ : ∃ W0, W0 = wr := ⟨_, rfl⟩
          rw [← hW0] at HQ
          rw [← hW0]
          clear hW0
          have HQB := Lib.hid (fun W (hW : Below W0.heap.size W0 W) => HQ.out.below hW)
          have HLV := Lib.hid (fun W (hW : Below W0.heap.size W0 W) t => q_rlive (HQ.out.below hW).1 t)
          have HRD := Lib.hid (fun W (hW : Below W0.heap.size W0 W) t => (cread_of (HQ.out.below hW).1 t))
          have HCH := Lib.hid (fun W (hW : Below W0.heap.size W0 W) t => (ccheck_of (HQ.out.below hW).1 t))
          go_loopw [5, 6, 7, 8, 9, 10, 11] (fun v5 v6 v7 t _ _ _ wr => ∃ k : Nat, k ≤ N ∧ t = .int .i64 ((k : Int) + 1) ∧ Hid (Tri W0 wr v5 v6 v7 (xsK c l k) (bsK c l k) (esK c l k))) (fun _ _ _ t _ _ _ _ => N + 1 - (intOf t).toNat)
          case atStart => exact ⟨0, Nat.zero_le _, rfl, Below.refl _ _, RW.nil _ _ _, RW.nil _ _ _, RW.nil _ _ _⟩
          case round =>
            obtain ⟨k, hkN, rfl, HT⟩ := hrel
            obtain ⟨⟨k0, k1, k2, k3⟩, k4, _⟩ := (HQB.out _ HT.out.bl).2.1.cells
            by_cases hlt : k < N
            · have hle : (k : Int) + 1 ≤ (N : Int) := by omega
              have CL := HLV.out _ HT.out.bl ((k : Int) + 1)
              cases hlv : c.isLive ((k : Int) + 1) with
              | false =>
                have HX : Hid (fv c l ((k : Int) + 1) = 0 ∧ fb c l ((k : Int) + 1) = false ∧ fe c l ((k : Int) + 1) = 0) := by simp only [Hid]; unfold fv fb fe; rw [hlv]; exact ⟨rfl, rfl, rfl⟩
                rw [hlv] at CL
                have CL := Lib.hid CL
                clear hlv
                obtain ⟨v5, c5, rfl⟩ := own_slice HT.out.r5.r
                obtain ⟨v6, c6, rfl⟩ := own_slice HT.out.r6.r
                obtain ⟨v7, c7, rfl⟩ := own_slice HT.out.r7.r
                go_upto_region 24 with (go_at_call 15; (with_reducible refine CL.out.mono ?_); rintro e w4 ⟨rfl, rfl⟩)
                obtain ⟨WX, hWX⟩ : ∃ WX, WX = wr := ⟨_, rfl⟩
                rw [← hWX] at HT
                rw [← hWX]
                have TX := HT
                clear hWX k0 k1 k2 k3 k4 HT CL
                have C5 := Lib.hid (cell_one_new WX (.int .i64 0) 3)
                have R5 := Lib.hid (TX.out.below ((Below.refl WX.heap.size WX).alloc (Nat.le_refl _) (.cells #[.int .i64 0] 3))).r5.r
                go_wp2_with (first
                  | (refine wp_own 36 3 _ 1 8 Try.underlying36 infoI rfl (by decide) (by decide) rfl (.tmp 82) (.tmp 84) rfl _ _ (xsK c l k) R5.out rfl ⟨WX.heap.size, 0, none⟩ 1 1 [.int .i64 0] rfl rfl C5.out (fun u hu => by rw [List.mem_singleton] at hu; subst hu; rfl) (by rw [xsK_len]; omega) ?_; intro v5' w5 hr5 hg5 ho5; have T5 := Lib.hid (TX.out.app5 _ hr5 hg5 ho5); have C6 := Lib.hid (cell_one_new w5 (.bool false) 4); have R6 := Lib.hid (T5.out.below ((Below.refl w5.heap.size w5).alloc (Nat.le_refl _) (.cells #[.bool false] 4))).r6.r; clear hr5 hg5 ho5)
                  | (refine wp_own 37 4 _ 1 1 Try.underlying37 infoB rfl (by decide) (by decide) rfl (.tmp 86) (.tmp 88) rfl _ _ (bsK c l k) R6.out rfl ⟨w5.heap.size, 0, none⟩ 1 1 [.bool false] rfl rfl C6.out (fun u hu => by rw [List.mem_singleton] at hu; subst hu; rfl) (by rw [bsK_len]; omega) ?_; intro v6' w6 hr6 hg6 ho6; have T6 := Lib.hid (T5.out.app6 _ hr6 hg6 ho6); have C7 := Lib.hid (cell_one_new w6 (.int .i64 0) 39); have R7 := Lib.hid (T6.out.below ((Below.refl w6.heap.size w6).alloc (Nat.le_refl _) (.cells #[.int .i64 0] 39))).r7.r; clear hr6 hg6 ho6)
                  | (refine wp_own 38 39 _ 1 8 Try.underlying38 infoE rfl (by decide) (by decide) rfl (.tmp 90) (.tmp 92) rfl _ _ (esK c l k) R7.out rfl ⟨w6.heap.size, 0, none⟩ 1 1 [.int .i64 0] rfl rfl C7.out (fun u hu => by rw [List.mem_singleton] at hu; subst hu; rfl) (by rw [esK_len]; omega) ?_; intro v7' w7 hr7 hg7 ho7; have T7 := Lib.hid (T6.out.app7 _ hr7 hg7 ho7); clear hr7 hg7 ho7))
                refine ⟨⟨k + 1, by omega, by go_num, ?_⟩, by simp [intOf]; omega⟩
                rw [xsK_succ, bsK_succ, esK_succ, HX.out.1, HX.out.2.1, HX.out.2.2]
                exact T7.out
              | true =>
                obtain ⟨vv, hvv⟩ : ∃ vv, vv = Ver.rdV 0 (Ver.rdX c ((k : Int) + 1) l) := ⟨_, rfl⟩
                obtain ⟨vb, hvb⟩ : ∃ vb, vb = Ver.rdB (Ver.rdX c ((k : Int) + 1) l) := ⟨_, rfl⟩
                obtain ⟨ve, hve⟩ : ∃ ve, ve = Ver.chk c ((k : Int) + 1) l := ⟨_, rfl⟩
                have HX : Hid (fv c l ((k : Int) + 1) = vv ∧ fb c l ((k : Int) + 1) = vb ∧ fe c l ((k : Int) + 1) = ve) := by simp only [Hid]; unfold fv fb fe; rw [hlv, hvv, hvb, hve]; exact ⟨rfl, rfl, rfl⟩
                have CR := HRD.out _ (HT.out.bl.drew) ((k : Int) + 1)
                have CC := fun W (hW : Below W0.heap.size W0 W) => HCH.out W hW ((k : Int) + 1)
                rw [← hvv, ← hvb] at CR
                rw [← hve] at CC
                rw [hlv] at CL
                have CL := Lib.hid CL
                have CR := Lib.hid CR
                have CC := Lib.hid CC
                clear hlv hvv hvb hve
                obtain ⟨v5, c5, rfl⟩ := own_slice HT.out.r5.r
                obtain ⟨v6, c6, rfl⟩ := own_slice HT.out.r6.r
                obtain ⟨v7, c7, rfl⟩ := own_slice HT.out.r7.r
                have HSS := Lib.hid (fun W (hW : Below W0.heap.size W0 W) => (HQB.out W hW).2.1.cells.1)
                go_upto_region 22 with (go_at_call 15; (with_reducible refine CL.out.mono ?_); rintro e w4 ⟨rfl, rfl⟩)
                have hS0 := HSS.out _ HT.out.bl.drew
                go_region_held3 (fun V => V.cell? ⟨z, 0, none⟩ = some (.pointer (some ⟨a, 0, none⟩)) ∧ V.cell? ⟨z, 1, none⟩ = some (.pointer (some ⟨x, 0, none⟩)) ∧ V.cell? ⟨z, 2, none⟩ = some (.pointer (some ⟨d, 0, none⟩)) ∧ V.cell? ⟨z, 3, none⟩ = some (.pointer (some ⟨y, 0, none⟩))) (first | exact hS0 | exact hS1)
                  (first | (go_at_call 16; (with_reducible refine CR.out.mono ?_); rintro e w5 ⟨rfl, hb5⟩; have HB5 := Lib.hid hb5; have hS1 := HSS.out _ (HT.out.bl.drew.trans (hb5.mono HT.out.bl.size)); clear hb5))
                clear hS0 hS1 CR CL
                have HT5 := Lib.hid ((HT.out.below (Below.refl _ _).drew).below HB5.out)
                go_upto_region 23 with fail
                have hS0 := HSS.out _ HT5.out.bl.drew
                have CC2 := Lib.hid (CC.out _ HT5.out.bl.drew)
                go_region_held3 (fun V => V.cell? ⟨z, 0, none⟩ = some (.pointer (some ⟨a, 0, none⟩)) ∧ V.cell? ⟨z, 1, none⟩ = some (.pointer (some ⟨x, 0, none⟩)) ∧ V.cell? ⟨z, 2, none⟩ = some (.pointer (some ⟨d, 0, none⟩)) ∧ V.cell? ⟨z, 3, none⟩ = some (.pointer (some ⟨y, 0, none⟩))) (first | exact hS0 | exact hS1)
                  (first | (go_at_call 17; (with_reducible refine CC2.out.mono ?_); rintro e w6 ⟨rfl, hb6⟩; have HB6 := Lib.hid hb6; have hS1 := HSS.out _ (HT5.out.bl.drew.trans (hb6.mono HT5.out.bl.size)); clear hb6))
                clear hS0 hS1 CC CC2 k0 k1 k2 k3 k4
                have TX := Lib.hid ((HT5.out.below (Below.refl _ _).drew).below HB6.out)
                clear HT HT5 HB5 HB6
                obtain ⟨WX, hWX⟩ : ∃ WX, WX = w6 := ⟨_, rfl⟩
                rw [← hWX] at TX
                rw [← hWX]
                clear hWX
                go_upto_region 24 with fail
                have C5 := Lib.hid (cell_one_new WX (.int .i64 vv) 3)
                have R5 := Lib.hid (TX.out.below ((Below.refl WX.heap.size WX).alloc (Nat.le_refl _) (.cells #[.int .i64 vv] 3))).r5.r
                go_wp2_with (first
                  | (refine wp_own 36 3 _ 1 8 Try.underlying36 infoI rfl (by decide) (by decide) rfl (.tmp 82) (.tmp 84) rfl _ _ (xsK c l k) R5.out rfl ⟨WX.heap.size, 0, none⟩ 1 1 [.int .i64 vv] rfl rfl C5.out (fun u hu => by rw [List.mem_singleton] at hu; subst hu; rfl) (by rw [xsK_len]; omega) ?_; intro v5' w5 hr5 hg5 ho5; have T5 := Lib.hid (TX.out.app5 _ hr5 hg5 ho5); have C6 := Lib.hid (cell_one_new w5 (.bool vb) 4); have R6 := Lib.hid (T5.out.below ((Below.refl w5.heap.size w5).alloc (Nat.le_refl _) (.cells #[.bool vb] 4))).r6.r; clear hr5 hg5 ho5)
                  | (refine wp_own 37 4 _ 1 1 Try.underlying37 infoB rfl (by decide) (by decide) rfl (.tmp 86) (.tmp 88) rfl _ _ (bsK c l k) R6.out rfl ⟨w5.heap.size, 0, none⟩ 1 1 [.bool vb] rfl rfl C6.out (fun u hu => by rw [List.mem_singleton] at hu; subst hu; rfl) (by rw [bsK_len]; omega) ?_; intro v6' w6 hr6 hg6 ho6; have T6 := Lib.hid (T5.out.app6 _ hr6 hg6 ho6); have C7 := Lib.hid (cell_one_new w6 (.int .i64 ve) 39); have R7 := Lib.hid (T6.out.below ((Below.refl w6.heap.size w6).alloc (Nat.le_refl _) (.cells #[.int .i64 ve] 39))).r7.r; clear hr6 hg6 ho6)
                  | (refine wp_own 38 39 _ 1 8 Try.underlying38 infoE rfl (by decide) (by decide) rfl (.tmp 90) (.tmp 92) rfl _ _ (esK c l k) R7.out rfl ⟨w6.heap.size, 0, none⟩ 1 1 [.int .i64 ve] rfl rfl C7.out (fun u hu => by rw [List.mem_singleton] at hu; subst hu; rfl) (by rw [esK_len]; omega) ?_; intro v7' w7 hr7 hg7 ho7; have T7 := Lib.hid (T6.out.app7 _ hr7 hg7 ho7); clear hr7 hg7 ho7))
                refine ⟨⟨k + 1, by omega, by go_num, ?_⟩, by simp [intOf]; omega⟩
                rw [xsK_succ, bsK_succ, esK_succ, HX.out.1, HX.out.2.1, HX.out.2.2]
                exact T7.out
            · obtain rfl : k = N := by omega
              have hle : ¬ (k : Int) + 1 ≤ (k : Int) := by omega
              have H4 := Lib.hid (W4.start HQ.out HT.out)
              have CLn := Lib.hid (q_len H4.out.q)
              have HIN := Lib.hid HG.out.inv
              go_wp2_with (go_at_call 18; (with_reducible refine CLn.out.mono ?_); rintro e w4 ⟨rfl, rfl⟩)
              obtain ⟨W1, hW1⟩ : ∃ W1, W1 = wr := ⟨_, rfl⟩
              rw [← hW1] at H4
              rw [← hW1]
              clear hW1 k0 k1 k2 k3 k4 CLn HT HQB HLV HRD HCH HQ HG
              obtain ⟨v5, hv5⟩ : ∃ v5, v5 = u5 := ⟨_, rfl⟩
              obtain ⟨v6, hv6⟩ : ∃ v6, v6 = u6 := ⟨_, rfl⟩
              obtain ⟨v7, hv7⟩ : ∃ v7, v7 = u7 := ⟨_, rfl⟩
              rw [← hv5, ← hv6, ← hv7] at H4
              rw [← hv5, ← hv6, ← hv7]
              clear hv5 hv6 hv7
              go_loopw [13] (fun kk wr => ∃ j : Nat, j ≤ l.length ∧ kk = .int .i64 (j : Nat) ∧ Hid ((swN c j l).length = l.length - j) ∧ Hid (W4 w W0 W1 wr z a x d y c (swN c j l) l (k : Nat) v5 v6 v7 (xsK c l k) (bsK c l k) (esK c l k))) (fun kk _ => l.length + 1 - (intOf kk).toNat)
              case atStart => exact ⟨0, Nat.zero_le _, rfl, rfl, H4.out⟩
              case round =>
                obtain ⟨j, hj, rfl, HLn, H5⟩ := hrel
                clear H4
                have HDr := Lib.hid H5.out.drew
                have CS := HDr.out.to (q_sweep HDr.out.q)
                have hjl : (j : Int) ≤ (l.length : Int) := by omega
                have hS0 := HDr.out.wb.cells.1
                cases hsp : Ver.spare c (swN c j l) with
                | true =>
                  rw [hsp] at CS
                  have CS := Lib.hid CS
                  have HL2 := Lib.hid (Ver.sweep_len hsp)
                  have HJ1 : Hid (j + 1 ≤ l.length) := by simp only [Hid]; have h1 := HL2.out; have h2 := HLn.out; omega
                  clear hsp
                  go_wp2_with fail
                  go_region_held3 (fun V => V.cell? ⟨z, 0, none⟩ = some (.pointer (some ⟨a, 0, none⟩)) ∧ V.cell? ⟨z, 1, none⟩ = some (.pointer (some ⟨x, 0, none⟩)) ∧ V.cell? ⟨z, 2, none⟩ = some (.pointer (some ⟨d, 0, none⟩)) ∧ V.cell? ⟨z, 3, none⟩ = some (.pointer (some ⟨y, 0, none⟩))) (first | exact hS0 | exact hS1)
                    (first | (go_at_call 19; (with_reducible refine CS.out.mono ?_); rintro e w5 ⟨rfl, h5⟩; have H6 := Lib.hid h5; have hS1 := h5.wb.cells.1; clear h5))
                  clear hS0 hS1
                  go_wp2
                  have hj1 := HJ1.out
                  refine ⟨⟨j + 1, hj1, by go_num, ?_, H6.out⟩, by simp [intOf]; omega⟩
                  show (Ver.swS c (swN c j l)).length = l.length - (j + 1)
                  have h1 := HL2.out
                  have h2 := HLn.out
                  omega
                | false =>
                  have hsw : Ver.swS c (swN c j l) = swN c j l := by unfold Ver.swS; rw [hsp]; rfl
                  rw [hsp, hsw] at CS
                  have CS := Lib.hid CS
                  have HSP := Lib.hid hsp
                  have HIM := Lib.hid (swN_inv HIN.out j)
                  have HRD := Lib.hid (fun t (ht : c.isLive t = true) => swN_rd HOK.out ht l j)
                  clear hsp hsw
                  generalize swN c j l = m at *
                  go_wp2_with fail
                  go_region_held3 (fun V => V.cell? ⟨z, 0, none⟩ = some (.pointer (some ⟨a, 0, none⟩)) ∧ V.cell? ⟨z, 1, none⟩ = some (.pointer (some ⟨x, 0, none⟩)) ∧ V.cell? ⟨z, 2, none⟩ = some (.pointer (some ⟨d, 0, none⟩)) ∧ V.cell? ⟨z, 3, none⟩ = some (.pointer (some ⟨y, 0, none⟩))) (first | exact hS0 | exact hS1)
                    (first | (go_at_call 19; (with_reducible refine CS.out.mono ?_); rintro e w5 ⟨rfl, h5⟩; have H6 := Lib.hid h5; have hS1 := h5.wb.cells.1; clear h5))
                  clear hS0 hS1 CS
                  have HD6 := Lib.hid H6.out.drew
                  have hS0 := HD6.out.wb.cells.1
                  have CL1 := Lib.hid (q_len HD6.out.q)
                  have CS1 := cspare_of HD6.out.q
                  rw [HSP.out] at CS1
                  have CS1 := Lib.hid CS1
                  have hjn : ¬ (l.length : Int) < (j : Int) := by omega
                  have hjn2 : ¬ l.length < j := by omega
                  have hln := HLn.out
                  have hsub : IntKind.i64.wrap ((l.length : Int) - (j : Int)) = ((m.length : Nat) : Int) := by rw [show (l.length : Int) - (j : Int) = ((m.length : Nat) : Int) by omega]; exact wrapI (by omega)
                  go_wp2_with fail
                  go_region_held3 (fun V => V.cell? ⟨z, 0, none⟩ = some (.pointer (some ⟨a, 0, none⟩)) ∧ V.cell? ⟨z, 1, none⟩ = some (.pointer (some ⟨x, 0, none⟩)) ∧ V.cell? ⟨z, 2, none⟩ = some (.pointer (some ⟨d, 0, none⟩)) ∧ V.cell? ⟨z, 3, none⟩ = some (.pointer (some ⟨y, 0, none⟩))) (first | exact hS0 | exact hS1)
                    (first
                      | (go_at_call 18; (with_reducible refine CL1.out.mono ?_); rintro e w6 ⟨rfl, rfl⟩)
                      | (go_at_call 20; (with_reducible refine CS1.out.mono ?_); rintro e w7 ⟨rfl, hb7⟩; have H7 := Lib.hid (HD6.out.below hb7); have hS1 := H7.out.wb.cells.1; clear hb7))
                  clear hS0 hS1 CL1 CS1
                  go_wp2
                  obtain ⟨W5, hW5⟩ : ∃ W5, W5 = w7 := ⟨_, rfl⟩
                  rw [← hW5] at H7
                  rw [← hW5]
                  clear hW5 HD6 H6 HDr H5 hsub
                  have HB4 := Lib.hid (fun W (hW : Below W5.heap.size W5 W) => H7.out.below hW)
                  go_loopw [14, 15, 16] (fun t _ _ wr => ∃ i : Nat, i ≤ k ∧ t = .int .i64 ((i : Int) + 1) ∧ Hid (Below W5.heap.size W5 wr)) (fun t _ _ _ => k + 1 - (intOf t).toNat)
                  case atStart => exact ⟨0, Nat.zero_le _, rfl, Below.refl _ _⟩
                  case round =>
                    obtain ⟨i, hik, rfl, HB⟩ := hrel
                    have H8 := Lib.hid (HB4.out _ HB.out)
                    obtain ⟨⟨k0, k1, k2, k3⟩, k4, _⟩ := H8.out.wb.cells
                    by_cases hlt : i < k
                    · have hle2 : (i : Int) + 1 ≤ (k : Int) := by omega
                      have CL := q_rlive H8.out.q ((i : Int) + 1)
                      cases hlv : c.isLive ((i : Int) + 1) with
                      | false =>
                        rw [hlv] at CL
                        have CL := Lib.hid CL
                        clear hlv
                        go_wp2_with (go_at_call 15; (with_reducible refine CL.out.mono ?_); rintro e w4 ⟨rfl, rfl⟩)
                        go_roundw
                        case rel => exact ⟨i + 1, by omega, by go_num, HB.out⟩
                        case measure => simp [intOf]; omega
                      | true =>
                        rw [hlv] at CL
                        have CL := Lib.hid CL
                        obtain ⟨vv, hvv⟩ : ∃ vv, vv = Ver.rdV 0 (Ver.rdX c ((i : Int) + 1) l) := ⟨_, rfl⟩
                        obtain ⟨vb, hvb⟩ : ∃ vb, vb = Ver.rdB (Ver.rdX c ((i : Int) + 1) l) := ⟨_, rfl⟩
                        obtain ⟨ve, hve⟩ : ∃ ve, ve = Ver.chk c ((i : Int) + 1) l := ⟨_, rfl⟩
                        have HX : Hid (fv c l ((i : Int) + 1) = vv ∧ fb c l ((i : Int) + 1) = vb ∧ fe c l ((i : Int) + 1) = ve) := by simp only [Hid]; unfold fv fb fe; rw [hlv, hvv, hvb, hve]; exact ⟨rfl, rfl, rfl⟩
                        obtain ⟨r1, r2, r3⟩ := HRD.out _ hlv
                        have H9 := Lib.hid H8.out.drew
                        have CR := cread_of H9.out.q ((i : Int) + 1)
                        rw [r1, r2, ← hvv, ← hvb] at CR
                        have CR := Lib.hid CR
                        have CC := fun W (hW : Below W5.heap.size W5 W) => ccheck_of (HB4.out W hW).q ((i : Int) + 1)
                        rw [r3, ← hve] at CC
                        have CC := Lib.hid CC
                        obtain ⟨g5, c5, e5, _⟩ := rw_at H8.out.r5 (xsK_at c l k hlt)
                        obtain ⟨g6, c6, e6, _⟩ := rw_at H8.out.r6 (bsK_at c l k hlt)
                        obtain ⟨g7, c7, e7, _⟩ := rw_at H8.out.r7 (esK_at c l k hlt)
                        rw [xsK_len] at e5
                        rw [bsK_len] at e6
                        rw [esK_len] at e7
                        have HSS : Hid (∀ W, Below W5.heap.size W5 W → (W.cell? ⟨z, 0, none⟩ = some (.pointer (some ⟨a, 0, none⟩)) ∧ W.cell? ⟨z, 1, none⟩ = some (.pointer (some ⟨x, 0, none⟩)) ∧ W.cell? ⟨z, 2, none⟩ = some (.pointer (some ⟨d, 0, none⟩)) ∧ W.cell? ⟨z, 3, none⟩ = some (.pointer (some ⟨y, 0, none⟩))) ∧ (W.cell? ⟨g5, i, none⟩ = some (.int .i64 vv) ∧ W.cell? ⟨g6, i, none⟩ = some (.bool vb) ∧ W.cell? ⟨g7, i, none⟩ = some (.int .i64 ve))) := fun W hW => by
                          have h := HB4.out W hW
                          refine ⟨h.wb.cells.1, ?_, ?_, ?_⟩
                          · obtain ⟨g, cp, e, hc⟩ := rw_at h.r5 (xsK_at c l k hlt)
                            rw [e5] at e
                            injection e with e; injection e with e; injection e with e
                            rw [e, hc, HX.out.1]
                          · obtain ⟨g, cp, e, hc⟩ := rw_at h.r6 (bsK_at c l k hlt)
                            rw [e6] at e
                            injection e with e; injection e with e; injection e with e
                            rw [e, hc, HX.out.2.1]
                          · obtain ⟨g, cp, e, hc⟩ := rw_at h.r7 (esK_at c l k hlt)
                            rw [e7] at e
                            injection e with e; injection e with e; injection e with e
                            rw [e, hc, HX.out.2.2]
                        have hwi : IntKind.i64.wrap (i : Int) = (i : Int) := wrapI (by omega)
                        have hsi : (i : Int) + 1 - 1 = (i : Int) := by omega
                        have hi0 : (0 : Int) ≤ (i : Int) := by omega
                        have hik2 : (i : Int) < (k : Int) := by omega
                        clear hlv hvv hvb hve r1 r2 r3 HX
                        subst e5
                        subst e6
                        subst e7
                        go_upto_region 34 with (go_at_call 15; (with_reducible refine CL.out.mono ?_); rintro e w4 ⟨rfl, rfl⟩)
                        have hS0 := (HSS.out _ HB.out.drew).1
                        go_region_held3 (fun V => V.cell? ⟨z, 0, none⟩ = some (.pointer (some ⟨a, 0, none⟩)) ∧ V.cell? ⟨z, 1, none⟩ = some (.pointer (some ⟨x, 0, none⟩)) ∧ V.cell? ⟨z, 2, none⟩ = some (.pointer (some ⟨d, 0, none⟩)) ∧ V.cell? ⟨z, 3, none⟩ = some (.pointer (some ⟨y, 0, none⟩))) (first | exact hS0 | exact hS1)
                          (first | (go_at_call 16; (with_reducible refine CR.out.mono ?_); rintro e w5 ⟨rfl, hb5⟩; have HB5 := Lib.hid (HB.out.drew.trans (hb5.mono HB.out.size)); have hS1 := (HSS.out _ HB5.out).1; clear hb5))
                        clear hS0 hS1 CR CL
                        go_upto_region 35 with fail
                        have hS0 := HSS.out _ HB5.out.drew
                        have CC2 := Lib.hid (CC.out _ HB5.out.drew)
                        go_region_held3 (fun V => (V.cell? ⟨z, 0, none⟩ = some (.pointer (some ⟨a, 0, none⟩)) ∧ V.cell? ⟨z, 1, none⟩ = some (.pointer (some ⟨x, 0, none⟩)) ∧ V.cell? ⟨z, 2, none⟩ = some (.pointer (some ⟨d, 0, none⟩)) ∧ V.cell? ⟨z, 3, none⟩ = some (.pointer (some ⟨y, 0, none⟩))) ∧ (V.cell? ⟨g5, i, none⟩ = some (.int .i64 vv) ∧ V.cell? ⟨g6, i, none⟩ = some (.bool vb) ∧ V.cell? ⟨g7, i, none⟩ = some (.int .i64 ve))) (first | exact hS0 | exact hS1)
                          (first | (go_at_call 17; (with_reducible refine CC2.out.mono ?_); rintro e w6 ⟨rfl, hb6⟩; have HB6 := Lib.hid (HB5.out.drew.trans (hb6.mono HB5.out.size)); have hS1 := HSS.out _ HB6.out; clear hb6))
                        clear hS0 hS1 k0 k1 k2 k3 k4
                        go_wp2
                        go_roundw
                        case rel => exact ⟨i + 1, by omega, by go_num, HB6.out⟩
                        case measure => simp [intOf]; omega
                    · obtain rfl : i = k := by omega
                      have hle2 : ¬ (i : Int) + 1 ≤ (i : Int) := by omega
                      have CN := Lib.hid (q_rcount H8.out.q)
                      have CL1 := Lib.hid (q_len H8.out.q)
                      by_cases hc0 : c.cnt = 0
                      · have hm1 := Ver.few hc0 HIM.out HSP.out
                        have hm2 : (m.length : Int) ≤ 1 := by omega
                        rw [hc0] at CN
                        clear hm1
                        go_wp2_with (first
                          | (go_at_call 21; (with_reducible refine CN.out.mono ?_); rintro e w4 ⟨rfl, rfl⟩)
                          | (go_at_call 18; (with_reducible refine CL1.out.mono ?_); rintro e w6 ⟨rfl, rfl⟩)
                          | (go_at_call 14; (with_reducible refine (DK.out _).mono ?_); rintro e w9 ⟨rfl, hb9⟩; have H10 := Lib.hid (H8.out.below hb9); clear hb9))
                        go_ret
                        exact ⟨rfl, H10.out.q.all⟩
                      · have hc1 : (0 : Int) < (c.cnt : Int) := by omega
                        go_wp2_with (first
                          | (go_at_call 21; (with_reducible refine CN.out.mono ?_); rintro e w4 ⟨rfl, rfl⟩)
                          | (go_at_call 14; (with_reducible refine (DK.out _).mono ?_); rintro e w9 ⟨rfl, hb9⟩; have H10 := Lib.hid (H8.out.below hb9); clear hb9))
                        go_ret
                        exact ⟨rfl, H10.out.q.all⟩


end Go.Proofs.Ytpjjpjdamieeeaa
