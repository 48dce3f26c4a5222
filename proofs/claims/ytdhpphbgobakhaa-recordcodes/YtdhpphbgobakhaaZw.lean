/- The program's reader of chapter 10: edge and node. Conditions: the reader's cells lie in memory. -/
import Derived.Test.YtdhpphbgobakhaaZv
namespace Go.Proofs.Ytdhpphbgobakhaa
set_option maxRecDepth 100000
set_option linter.unusedVariables false
open Go.ChangeShapes Go.WideShapes Go.ChangeAt Go.RowKit
open Fl (S cmpK keyN normN)
open Val (V cmpV isB ltT)
open Lb
section
variable {B r a : Nat} {g : Option Nat} {q : Option (List UInt8)} {w w1 w' : World}
set_option maxHeartbeats 2000000 in
theorem redge2_any (h : RS B r a g q w) : Calls Try.prog 51 #[.pointer (some ⟨r, 0, none⟩)] w (RdM pE egv B r a g q w) := by
  obtain ⟨V, hV⟩ : ∃ V, V = w.alloc (.cells #[.int .i64 0, .int .i64 0, .string ⟨#[]⟩, .float .f64 0] 39) := ⟨_, rfl⟩
  have hbx : BX V w.heap.size 39 #[.int .i64 0, .int .i64 0, .string ⟨#[]⟩, .float .f64 0] := by rw [hV]; exact bx_new w _ _
  have hrs : RS B r a g q V := by rw [hV]; exact h.alloc _
  have hch : Chg (F2 r a) w V := by rw [hV]; exact chg_self w _
  have hd := hrs.below (Below.refl V.heap.size V).drew
  have H0 := Lib.hid hd
  have hS0 := hd.c0
  have HB := Lib.hid (hbx.below (Below.refl V.heap.size V).drew)
  have HCH := Lib.hid (chg_row hch (grown_drew V none) (fun k e => by cases e))
  have hBw : B ≤ w.heap.size := h.size
  have HNF := Lib.hid (fun k (hk : B ≤ k) => h.f2 hk)
  have k0 := hrs.c0
  clear h hbx hrs hch hd
  go_enter Try.func51, Try.ntmps51
  go_upto_region 1 with fail
  rw [← hV]
  clear hV k0
  go_region_held3 (fun W => W.cell? ⟨r, 0, none⟩ = some (.pointer (some ⟨a, 0, none⟩))) (first | exact hS0 | exact hS1 | exact hS2 | exact hS3 | exact hS4 | exact ((((hR4.set hBw 0 _).set hBw 1 _).set hBw 2 _).set hBw 3 _).c0)
    (first
      | (go_at_call 74; refine (rdR_any H3.out).mono ?_; rintro e w4 ⟨x4, rfl, hR4, hc4, hi4⟩; have hS4 := hR4.c0; have pB := HB3.out.chg hc4 (HNF.out _ hBw); have p0 := pB.cell 0; have p1 := pB.cell 1; have p2 := pB.cell 2; have p3 := pB.cell 3; have pf := pB.frozen; simp only [List.getElem?_toArray, List.getElem?_cons_zero, List.getElem?_cons_succ] at p0 p1 p2 p3; have HI4 := Lib.hid hi4; have HB4 := Lib.hid pB; have HC4 := Lib.hid (chg2 HC3.out hc4); clear hc4 hi4 pB)
      | (go_at_call 73; refine (rdS_any H2.out).mono ?_; rintro e w3 ⟨x3, rfl, hR3, hc3, hi3⟩; have hS3 := hR3.c0; have H3 := Lib.hid hR3; have HB3 := Lib.hid (HB2.out.chg hc3 (HNF.out _ hBw)); have HC3 := Lib.hid (chg2 HC2.out hc3); have HI3 := Lib.hid hi3; clear hR3 hc3 hi3)
      | (have _ := H1; go_at_call 21; refine (rdI_any H1.out).mono ?_; rintro e w2 ⟨x2, rfl, hR2, hc2, hi2⟩; have hS2 := hR2.c0; have H2 := Lib.hid hR2; have HB2 := Lib.hid (HB1.out.chg hc2 (HNF.out _ hBw)); have HC2 := Lib.hid (chg2 HC1.out hc2); have HI2 := Lib.hid hi2; clear hR2 hc2 hi2)
      | (go_at_call 21; refine (rdI_any H0.out).mono ?_; rintro e w1 ⟨x1, rfl, hR1, hc1, hi1⟩; have hS1 := hR1.c0; have H1 := Lib.hid hR1; have HB1 := Lib.hid (HB.out.chg hc1 (HNF.out _ hBw)); have HC1 := Lib.hid (chg2 HCH.out hc1); have HI1 := Lib.hid hi1; clear hR1 hc1 hi1))
  have r1 := (((HB4.out.set 0 (.int .i64 x1)).set 1 (.int .i64 x2)).set 2 (.string x3)).set 3 (.float .f64 x4)
  have s0 := r1.cell 0; have s1 := r1.cell 1; have s2 := r1.cell 2; have s3 := r1.cell 3
  simp at s0 s1 s2 s3
  have hw : ∀ (W : World), (W = (((w4.setCell ⟨w.heap.size, 0, none⟩ (.int .i64 x1)).setCell ⟨w.heap.size, 1, none⟩ (.int .i64 x2)).setCell ⟨w.heap.size, 2, none⟩ (.string x3)).setCell ⟨w.heap.size, 3, none⟩ (.float .f64 x4)) → RdM pE egv B r a g q w (.returned (egv ⟨x1, x2, x3, x4⟩)) W := by
    rintro W rfl
    have n1 := nx_and (f := fun a => andT pI fun b => andT pS fun t => andT pR fun w => ret (⟨a, b, t, w⟩ : Eg)) HI1.out
    have n2 := nx_and (f := fun b => andT pS fun t => andT pR fun w => ret (⟨x1, b, t, w⟩ : Eg)) HI2.out
    have n3 := nx_and (f := fun t => andT pR fun w => ret (⟨x1, x2, t, w⟩ : Eg)) HI3.out
    have n4 := nx_and (f := fun w => ret (⟨x1, x2, x3, w⟩ : Eg)) HI4.out
    refine ⟨_, rfl, ?_, ?_, ?_⟩
    · unfold pE
      rw [n1.1, n2.1, n3.1, n4.1, nx_ret]
      iterate 4 (with_reducible refine RS.set ?_ hBw _ _)
      exact hR4
    · iterate 4 (with_reducible refine chg_set ?_ (Nat.le_refl _) _ _)
      exact HC4.out
    · unfold pE
      exact is_and HI1.out (is_and HI2.out (is_and HI3.out (is_and HI4.out is_ret)))
  go_wp2
  exact bodyPost_ret (v := egv ⟨x1, x2, x3, x4⟩) (by simp [results, Try.results51, go_sem, s0, s1, s2, s3]; try rfl) rfl (hw _ rfl)
/-- A node's rows in blocks that are B or newer. -/
structure NdN (B : Nat) (W : World) (n : Nd) (s : Ns) : Prop where
  l : RO 9 1 B W (.slice s.la n.ls.length s.lc) n.ls.length (n.ls.map Value.string)
  p : RO 49 6 B W (.slice s.pa n.ps.length s.pc) n.ps.length (pcs n.ps)
theorem NdN.at {W : World} {n : Nd} {s : Ns} (h : NdN B W n s) : NdAt W n s := ⟨row_own h.l.r, prow_own h.p.r⟩
theorem NdN.below {W W' : World} {n : Nd} {s : Ns} (h : NdN B W n s) (hb : Below W.heap.size W W') : NdN B W' n s := ⟨h.l.below hb, h.p.below hb⟩
theorem NdN.chg {W W' : World} {n : Nd} {s : Ns} (h : NdN B W n s) {w0 : World} (hs : RS B r a g q w0) (hc : Chg (F2 r a) W W') : NdN B W' n s := ⟨h.l.chg (Nat.le_refl _) hs hc, h.p.chg (Nat.le_refl _) hs hc⟩
theorem NdN.zero (B : Nat) (W : World) : NdN B W zN zS := ⟨RO.nil _ _ _ _, RO.nil _ _ _ _⟩
theorem ro_bx {e size n k : Nat} {v : Value} {xs : List Value} {t : TypeId} {cs : Array Value} {W : World} (h : RO e size B W v n xs) (hb : BX W k t cs) (ht : e ≠ t) : v.ownBlock ≠ some k := fun hk => by
  obtain ⟨cur, hc⟩ := own_type h.r hk
  unfold BX at hb
  rw [hb] at hc
  injection hc with hc
  injection hc with _ hc
  exact ht hc.symm
theorem many_step {α : Type} {p : Prs α} {k : Nat} {L : List α} {x : α} (h : Is (pMany p k) q L) (hx : Is p (nx (pMany p k) q) x) : nx (pMany p (k + 1)) q = nx p (nx (pMany p k) q) ∧ Is (pMany p (k + 1)) q (L ++ [x]) := by
  have e : pMany p (k + 1) = andT (pMany p k) fun l => andT p fun x => ret (l ++ [x]) := rfl
  rw [e]
  exact ⟨by rw [(nx_and h).1, (nx_and hx).1, nx_ret], is_and h (is_and hx is_ret)⟩
theorem many_zero {α : Type} (p : Prs α) : nx (pMany p 0) q = q ∧ Is (pMany p 0) q [] := ⟨nx_ret, is_ret⟩
end
end Go.Proofs.Ytdhpphbgobakhaa
