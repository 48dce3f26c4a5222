/- The program's reader of chapter 10: write. Conditions: the reader's cells lie in memory. -/
import Derived.Test.YtdhpphbgobakhaaZy
namespace Go.Proofs.Ytdhpphbgobakhaa
set_option maxRecDepth 100000
set_option linter.unusedVariables false
open Go.ChangeShapes Go.WideShapes Go.ChangeAt Go.RowKit
open Fl (S cmpK keyN normN)
open Val (V cmpV isB ltT)
open Lb
section
variable {B r a : Nat} {g : Option Nat} {q : Option (List UInt8)} {w w1 w' W W' : World}
set_option maxHeartbeats 40000000 in
theorem rwrite2_any (h : RS B r a g q w) : Calls Try.prog 23 #[.pointer (some ⟨r, 0, none⟩)] w (WrP B r a g q false w) := by
  obtain ⟨V, hV⟩ : ∃ V, V = w.alloc (.cells #[.bool false, .int .i64 0, .bool false, .slice none 0 0, .slice none 0 0, .int .i64 0, .int .i64 0, .string ⟨#[]⟩, .float .f64 0] 45) := ⟨_, rfl⟩
  have hbx : BX V w.heap.size 45 #[.bool false, .int .i64 0, .bool false, .slice none 0 0, .slice none 0 0, .int .i64 0, .int .i64 0, .string ⟨#[]⟩, .float .f64 0] := by rw [hV]; exact bx_new w _ _
  have hrs : RS B r a g q V := by rw [hV]; exact h.alloc _
  have hch : Chg (F2 r a) w V := by rw [hV]; exact chg_self w _
  have hd := hrs.below (Below.refl V.heap.size V).drew
  have H0 := Lib.hid hd
  have hS0 := hd.c0
  have HB0 := Lib.hid (hbx.below (Below.refl V.heap.size V).drew)
  have H0A := Lib.hid ((hrs.alloc (.cells #[.bool false, .int .i64 0, .bool false, .slice none 0 0, .slice none 0 0, .int .i64 0, .int .i64 0, .string ⟨#[]⟩, .float .f64 0] 45)).below (Below.refl _ _).drew)
  have HC0 := Lib.hid (chg_row hch (grown_drew V none) (fun k e => by cases e))
  have hBw : B ≤ w.heap.size := h.size
  have HNF := Lib.hid (fun k (hk : B ≤ k) => h.f2 hk)
  have k0 := hrs.c0
  clear h hbx hrs hch hd
  go_enter Try.func23, Try.ntmps23
  go_upto_region 1 with fail
  rw [← hV]
  clear hV k0
  have hz0 : B ≤ V.heap.size := H0.out.size
  go_region_held3 (fun W => W.cell? ⟨r, 0, none⟩ = some (.pointer (some ⟨a, 0, none⟩))) (first | with_reducible exact H0A.out.c0 | with_reducible exact H0.out.c0 | with_reducible exact (H0.out.alloc _).c0 | with_reducible exact H1.out.c0 | with_reducible exact (H1.out.alloc _).c0 | with_reducible exact H2.out.c0 | with_reducible exact (H2.out.alloc _).c0 | with_reducible exact H3.out.c0 | with_reducible exact (H3.out.alloc _).c0 | with_reducible exact (((((((((H3.out.set (by omega) 0 _).set (by omega) 1 _).set (by omega) 2 _).set (by omega) 3 _).set (by omega) 4 _).set (by omega) 5 _).set (by omega) 6 _).set (by omega) 7 _).set (by omega) 8 _).c0)
    (first
      | (have _ := HN2; have _ := H2; go_at_call 50; refine (flag_any H2.out).mono ?_; rintro e w3 ⟨x3, rfl, hR3, hc3, hi3⟩; have hz3 := hR3.size; have H3 := Lib.hid hR3; have HB3 := Lib.hid ((HB2.out).chg hc3 (HNF.out _ hBw)); have HC3 := Lib.hid (chg2 (HC2.out) hc3); have HI3 := Lib.hid hi3; have HN3 := Lib.hid (HN2.out.chg hc3 (HNF.out _ (by omega))); have n0 := HN3.out.cell 0; have n1 := HN3.out.cell 1; have n2 := HN3.out.cell 2; have n3 := HN3.out.cell 3; have n4 := HN3.out.cell 4; have n5 := HN3.out.cell 5; have n6 := HN3.out.cell 6; have n7 := HN3.out.cell 7; have n8 := HN3.out.cell 8; have nf := HN3.out.frozen; simp only [List.getElem?_toArray, List.getElem?_cons_zero, List.getElem?_cons_succ] at n0 n1 n2 n3 n4 n5 n6 n7 n8; clear hR3 hc3 hi3)
      | (have _ := H2; go_at_call 50; refine (flag_any (H2.out.alloc _)).mono ?_; rintro e w3 ⟨x3, rfl, hR3, hc3, hi3⟩; have hz3 := hR3.size; have H3 := Lib.hid hR3; have HB3 := Lib.hid ((HB2.out.below (one_box _ _)).chg hc3 (HNF.out _ hBw)); have HC3 := Lib.hid (chg2 (chg_alloc HC2.out _) hc3); have HI3 := Lib.hid hi3; have HN3 := Lib.hid ((bx_new w2 _ _).chg hc3 (HNF.out _ H2.out.size)); have n0 := HN3.out.cell 0; have n1 := HN3.out.cell 1; have n2 := HN3.out.cell 2; have n3 := HN3.out.cell 3; have n4 := HN3.out.cell 4; have n5 := HN3.out.cell 5; have n6 := HN3.out.cell 6; have n7 := HN3.out.cell 7; have n8 := HN3.out.cell 8; have nf := HN3.out.frozen; simp only [List.getElem?_toArray, List.getElem?_cons_zero, List.getElem?_cons_succ] at n0 n1 n2 n3 n4 n5 n6 n7 n8; clear hR3 hc3 hi3)
      | (have _ := H2; go_at_call 50; refine (flag_any H2.out).mono ?_; rintro e w3 ⟨x3, rfl, hR3, hc3, hi3⟩; have hz3 := hR3.size; have H3 := Lib.hid hR3; have HB3 := Lib.hid ((HB2.out).chg hc3 (HNF.out _ hBw)); have HC3 := Lib.hid (chg2 (HC2.out) hc3); have HI3 := Lib.hid hi3; clear hR3 hc3 hi3)
      | (have _ := HN1; have _ := H1; go_at_call 21; refine (rdI_any H1.out).mono ?_; rintro e w2 ⟨x2, rfl, hR2, hc2, hi2⟩; have hz2 := hR2.size; have H2 := Lib.hid hR2; have HB2 := Lib.hid ((HB1.out).chg hc2 (HNF.out _ hBw)); have HC2 := Lib.hid (chg2 (HC1.out) hc2); have HI2 := Lib.hid hi2; have HN2 := Lib.hid (HN1.out.chg hc2 (HNF.out _ (by omega))); clear hR2 hc2 hi2)
      | (have _ := H1; go_at_call 21; refine (rdI_any (H1.out.alloc _)).mono ?_; rintro e w2 ⟨x2, rfl, hR2, hc2, hi2⟩; have hz2 := hR2.size; have H2 := Lib.hid hR2; have HB2 := Lib.hid ((HB1.out.below (one_box _ _)).chg hc2 (HNF.out _ hBw)); have HC2 := Lib.hid (chg2 (chg_alloc HC1.out _) hc2); have HI2 := Lib.hid hi2; have HN2 := Lib.hid ((bx_new w1 _ _).chg hc2 (HNF.out _ H1.out.size)); clear hR2 hc2 hi2)
      | (have _ := H1; go_at_call 21; refine (rdI_any H1.out).mono ?_; rintro e w2 ⟨x2, rfl, hR2, hc2, hi2⟩; have hz2 := hR2.size; have H2 := Lib.hid hR2; have HB2 := Lib.hid ((HB1.out).chg hc2 (HNF.out _ hBw)); have HC2 := Lib.hid (chg2 (HC1.out) hc2); have HI2 := Lib.hid hi2; clear hR2 hc2 hi2)
      | (have _ := H0; go_at_call 50; refine (flag_any (H0.out.alloc _)).mono ?_; rintro e w1 ⟨x1, rfl, hR1, hc1, hi1⟩; have hz1 := hR1.size; have H1 := Lib.hid hR1; have HB1 := Lib.hid ((HB0.out.below (one_box _ _)).chg hc1 (HNF.out _ hBw)); have HC1 := Lib.hid (chg2 (chg_alloc HC0.out _) hc1); have HI1 := Lib.hid hi1; have HN1 := Lib.hid ((show BX _ V.heap.size _ _ from bx_new V.drew _ _).chg hc1 (HNF.out _ H0.out.size)); clear hR1 hc1 hi1)
      | (have _ := H0; go_at_call 50; refine (flag_any H0.out).mono ?_; rintro e w1 ⟨x1, rfl, hR1, hc1, hi1⟩; have hz1 := hR1.size; have H1 := Lib.hid hR1; have HB1 := Lib.hid ((HB0.out).chg hc1 (HNF.out _ hBw)); have HC1 := Lib.hid (chg2 (HC0.out) hc1); have HI1 := Lib.hid hi1; clear hR1 hc1 hi1))
  all_goals
    first
      | (obtain ⟨nb, hnb⟩ : ∃ nb, w2.heap.size = nb := ⟨_, rfl⟩
         have hwn : w.heap.size < nb := by rw [← hnb]; exact HB2.out.lt
         have hBn : B ≤ nb := by omega
         replace HN3 : Hid (BX w3 (w2.heap.size) 45 #[.bool false, .int .i64 0, .bool false, .slice none 0 0, .slice none 0 0, .int .i64 0, .int .i64 0, .string ⟨#[]⟩, .float .f64 0]) := HN3
         rw [hnb] at HN3
         rw [hnb]
         obtain ⟨W1, hW1⟩ : ∃ W1, W1 = (((((((((w3.setCell ⟨nb, 0, none⟩ (.bool x1)).setCell ⟨nb, 1, none⟩ (.int .i64 x2)).setCell ⟨nb, 2, none⟩ (.bool x3)).setCell ⟨nb, 3, none⟩ (.slice none 0 0)).setCell ⟨nb, 4, none⟩ (.slice none 0 0)).setCell ⟨nb, 5, none⟩ (.int .i64 0)).setCell ⟨nb, 6, none⟩ (.int .i64 0)).setCell ⟨nb, 7, none⟩ (.string ⟨#[]⟩)).setCell ⟨nb, 8, none⟩ (.float .f64 0)) := ⟨_, rfl⟩
         rw [← hW1]
         have hg9 : w3.grownBy W1 (some nb) := by
           rw [hW1]
           iterate 8 (with_reducible refine only_trans ?_ (grown_set _ _ _ _))
           exact grown_set _ _ 0 _
         have HR1 : Hid (RS B r a g (nx pB (nx pI (nx pB q))) W1) := H3.out.grown hg9 (fun k e => by injection e with e; omega)
         have HBR : Hid (BX W1 w.heap.size 45 #[.bool false, .int .i64 0, .bool false, .slice none 0 0, .slice none 0 0, .int .i64 0, .int .i64 0, .string ⟨#[]⟩, .float .f64 0]) := HB3.out.kept hg9 (fun e => by injection e with e; omega)
         have HBN : Hid (BX W1 nb 45 #[.bool x1, .int .i64 x2, .bool x3, .slice none 0 0, .slice none 0 0, .int .i64 0, .int .i64 0, .string ⟨#[]⟩, .float .f64 0]) := by rw [hW1]; exact (((((((((HN3.out.set 0 (.bool x1)).set 1 (.int .i64 x2)).set 2 (.bool x3)).set 3 (.slice none 0 0)).set 4 (.slice none 0 0)).set 5 (.int .i64 0)).set 6 (.int .i64 0)).set 7 (.string ⟨#[]⟩)).set 8 (.float .f64 0))
         have HCW : Hid (Chg (F2 r a) w W1) := chg_row HC3.out hg9 (fun k e => by injection e with e; omega)
         have HSZ : w.heap.size < nb := hwn
         clear hg9 hW1 hnb HN3 n0 n1 n2 n3 n4 n5 n6 n7 n8 nf)
      | (obtain ⟨nb, hnb⟩ : ∃ nb, w1.heap.size = nb := ⟨_, rfl⟩
         have hwn : w.heap.size < nb := by rw [← hnb]; exact HB1.out.lt
         have hBn : B ≤ nb := by omega
         replace HN3 : Hid (BX w3 (w1.heap.size) 45 #[.bool false, .int .i64 0, .bool false, .slice none 0 0, .slice none 0 0, .int .i64 0, .int .i64 0, .string ⟨#[]⟩, .float .f64 0]) := HN3
         rw [hnb] at HN3
         rw [hnb]
         obtain ⟨W1, hW1⟩ : ∃ W1, W1 = (((((((((w3.setCell ⟨nb, 0, none⟩ (.bool x1)).setCell ⟨nb, 1, none⟩ (.int .i64 x2)).setCell ⟨nb, 2, none⟩ (.bool x3)).setCell ⟨nb, 3, none⟩ (.slice none 0 0)).setCell ⟨nb, 4, none⟩ (.slice none 0 0)).setCell ⟨nb, 5, none⟩ (.int .i64 0)).setCell ⟨nb, 6, none⟩ (.int .i64 0)).setCell ⟨nb, 7, none⟩ (.string ⟨#[]⟩)).setCell ⟨nb, 8, none⟩ (.float .f64 0)) := ⟨_, rfl⟩
         rw [← hW1]
         have hg9 : w3.grownBy W1 (some nb) := by
           rw [hW1]
           iterate 8 (with_reducible refine only_trans ?_ (grown_set _ _ _ _))
           exact grown_set _ _ 0 _
         have HR1 : Hid (RS B r a g (nx pB (nx pI (nx pB q))) W1) := H3.out.grown hg9 (fun k e => by injection e with e; omega)
         have HBR : Hid (BX W1 w.heap.size 45 #[.bool false, .int .i64 0, .bool false, .slice none 0 0, .slice none 0 0, .int .i64 0, .int .i64 0, .string ⟨#[]⟩, .float .f64 0]) := HB3.out.kept hg9 (fun e => by injection e with e; omega)
         have HBN : Hid (BX W1 nb 45 #[.bool x1, .int .i64 x2, .bool x3, .slice none 0 0, .slice none 0 0, .int .i64 0, .int .i64 0, .string ⟨#[]⟩, .float .f64 0]) := by rw [hW1]; exact (((((((((HN3.out.set 0 (.bool x1)).set 1 (.int .i64 x2)).set 2 (.bool x3)).set 3 (.slice none 0 0)).set 4 (.slice none 0 0)).set 5 (.int .i64 0)).set 6 (.int .i64 0)).set 7 (.string ⟨#[]⟩)).set 8 (.float .f64 0))
         have HCW : Hid (Chg (F2 r a) w W1) := chg_row HC3.out hg9 (fun k e => by injection e with e; omega)
         have HSZ : w.heap.size < nb := hwn
         clear hg9 hW1 hnb HN3 n0 n1 n2 n3 n4 n5 n6 n7 n8 nf)
      | (obtain ⟨nb, hnb⟩ : ∃ nb, V.heap.size = nb := ⟨_, rfl⟩
         have hwn : w.heap.size < nb := by rw [← hnb]; exact HB0.out.lt
         have hBn : B ≤ nb := by omega
         replace HN3 : Hid (BX w3 (V.heap.size) 45 #[.bool false, .int .i64 0, .bool false, .slice none 0 0, .slice none 0 0, .int .i64 0, .int .i64 0, .string ⟨#[]⟩, .float .f64 0]) := HN3
         rw [hnb] at HN3
         rw [hnb]
         obtain ⟨W1, hW1⟩ : ∃ W1, W1 = (((((((((w3.setCell ⟨nb, 0, none⟩ (.bool x1)).setCell ⟨nb, 1, none⟩ (.int .i64 x2)).setCell ⟨nb, 2, none⟩ (.bool x3)).setCell ⟨nb, 3, none⟩ (.slice none 0 0)).setCell ⟨nb, 4, none⟩ (.slice none 0 0)).setCell ⟨nb, 5, none⟩ (.int .i64 0)).setCell ⟨nb, 6, none⟩ (.int .i64 0)).setCell ⟨nb, 7, none⟩ (.string ⟨#[]⟩)).setCell ⟨nb, 8, none⟩ (.float .f64 0)) := ⟨_, rfl⟩
         rw [← hW1]
         have hg9 : w3.grownBy W1 (some nb) := by
           rw [hW1]
           iterate 8 (with_reducible refine only_trans ?_ (grown_set _ _ _ _))
           exact grown_set _ _ 0 _
         have HR1 : Hid (RS B r a g (nx pB (nx pI (nx pB q))) W1) := H3.out.grown hg9 (fun k e => by injection e with e; omega)
         have HBR : Hid (BX W1 w.heap.size 45 #[.bool false, .int .i64 0, .bool false, .slice none 0 0, .slice none 0 0, .int .i64 0, .int .i64 0, .string ⟨#[]⟩, .float .f64 0]) := HB3.out.kept hg9 (fun e => by injection e with e; omega)
         have HBN : Hid (BX W1 nb 45 #[.bool x1, .int .i64 x2, .bool x3, .slice none 0 0, .slice none 0 0, .int .i64 0, .int .i64 0, .string ⟨#[]⟩, .float .f64 0]) := by rw [hW1]; exact (((((((((HN3.out.set 0 (.bool x1)).set 1 (.int .i64 x2)).set 2 (.bool x3)).set 3 (.slice none 0 0)).set 4 (.slice none 0 0)).set 5 (.int .i64 0)).set 6 (.int .i64 0)).set 7 (.string ⟨#[]⟩)).set 8 (.float .f64 0))
         have HCW : Hid (Chg (F2 r a) w W1) := chg_row HC3.out hg9 (fun k e => by injection e with e; omega)
         have HSZ : w.heap.size < nb := hwn
         clear hg9 hW1 hnb HN3 n0 n1 n2 n3 n4 n5 n6 n7 n8 nf)
      | (obtain ⟨nb, hnb⟩ : ∃ nb, w3.heap.size = nb := ⟨_, rfl⟩
         rw [hnb]
         obtain ⟨W1, hW1⟩ : ∃ W1, W1 = w3.alloc (.cells #[.bool x1, .int .i64 x2, .bool x3, .slice none 0 0, .slice none 0 0, .int .i64 0, .int .i64 0, .string ⟨#[]⟩, .float .f64 0] 45) := ⟨_, rfl⟩
         rw [← hW1]
         have HR1 : Hid (RS B r a g (nx pB (nx pI (nx pB q))) W1) := by rw [hW1]; exact H3.out.alloc _
         have HBR : Hid (BX W1 w.heap.size 45 #[.bool false, .int .i64 0, .bool false, .slice none 0 0, .slice none 0 0, .int .i64 0, .int .i64 0, .string ⟨#[]⟩, .float .f64 0]) := by rw [hW1]; exact HB3.out.below (one_box w3 _)
         have HBN : Hid (BX W1 nb 45 #[.bool x1, .int .i64 x2, .bool x3, .slice none 0 0, .slice none 0 0, .int .i64 0, .int .i64 0, .string ⟨#[]⟩, .float .f64 0]) := by rw [hW1, ← hnb]; exact bx_new w3 _ _
         have HCW : Hid (Chg (F2 r a) w W1) := by rw [hW1]; exact chg_alloc HC3.out _
         have HSZ : w.heap.size < nb := by rw [← hnb]; exact HB3.out.lt
         clear hW1 hnb)
    clear hS0 H0 H1 H2 H3 H0A HB0 HB1 HB2 HB3 HC0 HC1 HC2 HC3
    have hne : w.heap.size ≠ nb := by omega
    have hBn : B ≤ nb := by omega
    have hwn : w.heap.size ≤ nb := by omega
    have HBR4 := HBR
    have HBN4 := HBN
    have q0 := HBN4.out.cell 0; have q1 := HBN4.out.cell 1; have q2 := HBN4.out.cell 2; have q3 := HBN4.out.cell 3; have q4 := HBN4.out.cell 4; have q5 := HBN4.out.cell 5; have q6 := HBN4.out.cell 6; have q7 := HBN4.out.cell 7; have q8 := HBN4.out.cell 8
    have p0 := HBR4.out.cell 0; have p1 := HBR4.out.cell 1; have p2 := HBR4.out.cell 2; have p3 := HBR4.out.cell 3; have p4 := HBR4.out.cell 4; have p5 := HBR4.out.cell 5; have p6 := HBR4.out.cell 6; have p7 := HBR4.out.cell 7; have p8 := HBR4.out.cell 8
    have pf := HBR4.out.frozen
    have qf := HBN4.out.frozen
    simp only [List.getElem?_toArray, List.getElem?_cons_zero, List.getElem?_cons_succ] at p0 p1 p2 p3 p4 p5 p6 p7 p8 q0 q1 q2 q3 q4 q5 q6 q7 q8
    cases x3 with
    | true =>
      have HIS := Lib.hid (pW_gone (s := false) HI1.out HI2.out HI3.out)
      clear HI1 HI2 HI3
      have HEND := Lib.hid (nine_end (n := zN) (s := zS) HBR.out (.bool x1) (.int .i64 x2) (.bool true) (.slice none 0 0) (.slice none 0 0) (.int .i64 0) (.int .i64 0) (.string ⟨#[]⟩) (.float .f64 0) (Nat.le_refl _) hBw HR1.out HCW.out (NdN.zero _ _))
      go_wp2
      obtain ⟨⟨s0, s1, s2, s3, s4, s5, s6, s7, s8⟩, f1, f2, f3⟩ := HEND.out
      rw [← HIS.out.1] at f1
      exact bodyPost_ret (v := wrv ⟨x1, x2, true, zN, zE⟩ zS) (by simp [results, Try.results23, go_sem, s0, s1, s2, s3, s4, s5, s6, s7, s8]; first | rfl | exact ⟨⟨rfl, rfl, rfl⟩, ⟨rfl, rfl, rfl⟩, rfl, rfl, rfl, rfl⟩ | exact ⟨⟨rfl, rfl, rfl⟩, rfl, rfl, rfl⟩ | exact ⟨rfl, rfl, rfl, rfl⟩) rfl ⟨_, _, rfl, f1, f2, HIS.out.2, f3⟩
    | false =>
      cases x1 with
      | true =>
        have HM := Lib.hid (redge2_any HR1.out)
        go_wp2_with fail
        refine HM.out.mono ?_
        rintro e w4 ⟨y, rfl, hR4, hc4, hi4⟩
        have HR4 := Lib.hid ((((hR4.set hBn 5 (.int .i64 y.a)).set hBn 6 (.int .i64 y.b)).set hBn 7 (.string y.t)).set hBn 8 (.float .f64 y.w))
        clear HBR4 HBN4 p0 p1 p2 p3 p4 p5 p6 p7 p8 q0 q1 q2 q3 q4 q5 q6 q7 q8 pf qf
        have HBR4 := Lib.hid (HBR.out.chg hc4 (HNF.out _ hBw))
        have HBN4 := Lib.hid (HBN.out.chg hc4 (HNF.out _ hBn))
        have HBR5 := Lib.hid ((((HBR4.out.other hne 5 (.int .i64 y.a)).other hne 6 (.int .i64 y.b)).other hne 7 (.string y.t)).other hne 8 (.float .f64 y.w))
        have HC4 := Lib.hid (chg_set (chg_set (chg_set (chg_set (chg2 HCW.out hc4) hwn 5 (.int .i64 y.a)) hwn 6 (.int .i64 y.b)) hwn 7 (.string y.t)) hwn 8 (.float .f64 y.w))
        have HIS := Lib.hid (pW_edge (s := false) HI1.out HI2.out HI3.out hi4)
        clear HI1 HI2 HI3 HM hR4 hc4 hi4
        have q0 := HBN4.out.cell 0; have q1 := HBN4.out.cell 1; have q2 := HBN4.out.cell 2; have q3 := HBN4.out.cell 3; have q4 := HBN4.out.cell 4; have q5 := HBN4.out.cell 5; have q6 := HBN4.out.cell 6; have q7 := HBN4.out.cell 7; have q8 := HBN4.out.cell 8
        have p0 := HBR4.out.cell 0; have p1 := HBR4.out.cell 1; have p2 := HBR4.out.cell 2; have p3 := HBR4.out.cell 3; have p4 := HBR4.out.cell 4; have p5 := HBR4.out.cell 5; have p6 := HBR4.out.cell 6; have p7 := HBR4.out.cell 7; have p8 := HBR4.out.cell 8
        have pf := HBR4.out.frozen
        have qf := HBN4.out.frozen
        simp only [List.getElem?_toArray, List.getElem?_cons_zero, List.getElem?_cons_succ] at p0 p1 p2 p3 p4 p5 p6 p7 p8 q0 q1 q2 q3 q4 q5 q6 q7 q8
        have HEND := Lib.hid (nine_end (n := zN) (s := zS) HBR5.out (.bool true) (.int .i64 x2) (.bool false) (.slice none 0 0) (.slice none 0 0) (.int .i64 y.a) (.int .i64 y.b) (.string y.t) (.float .f64 y.w) (Nat.le_refl _) hBw HR4.out HC4.out (NdN.zero _ _))
        go_wp2
        obtain ⟨⟨s0, s1, s2, s3, s4, s5, s6, s7, s8⟩, f1, f2, f3⟩ := HEND.out
        rw [← HIS.out.1] at f1
        exact bodyPost_ret (v := wrv ⟨true, x2, false, zN, y⟩ zS) (by simp [results, Try.results23, go_sem, s0, s1, s2, s3, s4, s5, s6, s7, s8]; first | rfl | exact ⟨⟨rfl, rfl, rfl⟩, ⟨rfl, rfl, rfl⟩, rfl, rfl, rfl, rfl⟩ | exact ⟨⟨rfl, rfl, rfl⟩, rfl, rfl, rfl⟩ | exact ⟨rfl, rfl, rfl, rfl⟩) rfl ⟨_, _, rfl, f1, f2, HIS.out.2, f3⟩
      | false =>
        have HM := Lib.hid (rnode2_any HR1.out)
        go_wp2_with fail
        refine HM.out.mono ?_
        rintro e w4 ⟨y, s, rfl, hR4, hc4, hi4, hn4⟩
        clear HBR4 HBN4 p0 p1 p2 p3 p4 p5 p6 p7 p8 q0 q1 q2 q3 q4 q5 q6 q7 q8 pf qf
        have HBR4 := Lib.hid (HBR.out.chg hc4 (HNF.out _ hBw))
        have HBN4 := Lib.hid (HBN.out.chg hc4 (HNF.out _ hBn))
        have HBR5 := Lib.hid ((HBR4.out.other hne 3 (.slice s.la y.ls.length s.lc)).other hne 4 (.slice s.pa y.ps.length s.pc))
        have HR4 := Lib.hid ((hR4.set hBn 3 (.slice s.la y.ls.length s.lc)).set hBn 4 (.slice s.pa y.ps.length s.pc))
        have HC4 := Lib.hid (chg_set (chg_set (chg2 HCW.out hc4) hwn 3 (.slice s.la y.ls.length s.lc)) hwn 4 (.slice s.pa y.ps.length s.pc))
        have HIS := Lib.hid (pW_node (s := false) HI1.out HI2.out HI3.out hi4)
        have HN5 := Lib.hid (((ndN_mono hn4 HCW.out.size).kept (grown_set w4 nb 3 (.slice s.la y.ls.length s.lc)) HBN4.out).kept (grown_set _ nb 4 (.slice s.pa y.ps.length s.pc)) (HBN4.out.set 3 (.slice s.la y.ls.length s.lc)))
        clear HI1 HI2 HI3 HM hR4 hc4 hi4 hn4
        have q0 := HBN4.out.cell 0; have q1 := HBN4.out.cell 1; have q2 := HBN4.out.cell 2; have q3 := HBN4.out.cell 3; have q4 := HBN4.out.cell 4; have q5 := HBN4.out.cell 5; have q6 := HBN4.out.cell 6; have q7 := HBN4.out.cell 7; have q8 := HBN4.out.cell 8
        have p0 := HBR4.out.cell 0; have p1 := HBR4.out.cell 1; have p2 := HBR4.out.cell 2; have p3 := HBR4.out.cell 3; have p4 := HBR4.out.cell 4; have p5 := HBR4.out.cell 5; have p6 := HBR4.out.cell 6; have p7 := HBR4.out.cell 7; have p8 := HBR4.out.cell 8
        have pf := HBR4.out.frozen
        have qf := HBN4.out.frozen
        simp only [List.getElem?_toArray, List.getElem?_cons_zero, List.getElem?_cons_succ] at p0 p1 p2 p3 p4 p5 p6 p7 p8 q0 q1 q2 q3 q4 q5 q6 q7 q8
        have HEND := Lib.hid (nine_end (n := y) (s := s) HBR5.out (.bool false) (.int .i64 x2) (.bool false) (.slice s.la y.ls.length s.lc) (.slice s.pa y.ps.length s.pc) (.int .i64 0) (.int .i64 0) (.string ⟨#[]⟩) (.float .f64 0) (Nat.le_refl _) hBw HR4.out HC4.out HN5.out)
        go_wp2
        obtain ⟨⟨s0, s1, s2, s3, s4, s5, s6, s7, s8⟩, f1, f2, f3⟩ := HEND.out
        rw [← HIS.out.1] at f1
        exact bodyPost_ret (v := wrv ⟨false, x2, false, y, zE⟩ s) (by simp [results, Try.results23, go_sem, s0, s1, s2, s3, s4, s5, s6, s7, s8]; first | rfl | exact ⟨⟨rfl, rfl, rfl⟩, ⟨rfl, rfl, rfl⟩, rfl, rfl, rfl, rfl⟩ | exact ⟨⟨rfl, rfl, rfl⟩, rfl, rfl, rfl⟩ | exact ⟨rfl, rfl, rfl, rfl⟩) rfl ⟨_, _, rfl, f1, f2, HIS.out.2, f3⟩
end
end Go.Proofs.Ytdhpphbgobakhaa
