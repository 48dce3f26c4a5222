/- The program's reader of chapter 10: count and val. Conditions: the reader's cells lie in memory. -/
import Derived.Test.YtdhpphbgobakhaaZu
namespace Go.Proofs.Ytdhpphbgobakhaa
set_option maxRecDepth 100000
set_option linter.unusedVariables false
open Go.ChangeShapes Go.WideShapes Go.ChangeAt Go.RowKit
open Fl (S cmpK keyN normN)
open Val (V cmpV isB ltT)
open Lb
/-- Block g holds these cells. -/
def BX (w : World) (g : Nat) (t : TypeId) (cs : Array Value) : Prop := w.heap[g]? = some (.cells cs t (0, 0))
section
variable {w w' : World} {g : Nat} {t : TypeId} {cs : Array Value}
theorem bx_new (w : World) (cs : Array Value) (t : TypeId) : BX (w.alloc (.cells cs t)) w.heap.size t cs := heap_alloc_new w _
theorem BX.lt (h : BX w g t cs) : g < w.heap.size := block_of h
theorem BX.cell (h : BX w g t cs) (o : Nat) : w.cell? ⟨g, o, none⟩ = cs[o]? := cell_of_row w g o cs t (0, 0) h
theorem BX.frozen (h : BX w g t cs) (o : Nat) : w.frozen? ⟨g, o, none⟩ = false := frozen_of_row w g o cs t h
theorem BX.set (h : BX w g t cs) (o : Nat) (u : Value) : BX (w.setCell ⟨g, o, none⟩ u) g t (cs.setIfInBounds o u) := heap_setCell_same w g o cs t u h
theorem BX.kept {row : Option Nat} (h : BX w g t cs) (hg : w.grownBy w' row) (hne : some g ≠ row) : BX w' g t cs := (hg.block g h.lt hne).trans h
theorem BX.below (h : BX w g t cs) (hb : Below w.heap.size w w') : BX w' g t cs := (hb.block g h.lt).trans h
theorem BX.other (h : BX w g t cs) {k : Nat} (hk : g ≠ k) (o : Nat) (u : Value) : BX (w.setCell ⟨k, o, none⟩ u) g t cs := h.kept (grown_set w k o u) (fun e => by injection e with e; exact hk e)
end
section
variable {B r a : Nat} {g : Option Nat} {q : Option (List UInt8)} {w w1 w' : World}
theorem BX.chg {k : Nat} {t : TypeId} {cs : Array Value} (h : BX w k t cs) (hc : Chg (F2 r a) w w') (hk : ¬ F2 r a k) : BX w' k t cs := (hc.block k h.lt hk).trans h
theorem RS.set (h : RS B r a g q w) {k : Nat} (hk : B ≤ k) (o : Nat) (u : Value) : RS B r a g q (w.setCell ⟨k, o, none⟩ u) := h.grown (grown_set w k o u) (fun j e => by injection e with e; omega)
theorem RS.alloc (h : RS B r a g q w) (o : Obj) : RS B r a g q (w.alloc o) := h.below (one_box w o)
theorem chg_set (h : Chg (F2 r a) w w1) {k : Nat} (hk : w.heap.size ≤ k) (o : Nat) (u : Value) : Chg (F2 r a) w (w1.setCell ⟨k, o, none⟩ u) := h.grown (grown_set w1 k o u) (fun j e => .inr (by injection e with e; omega))
theorem chg_alloc (h : Chg (F2 r a) w w1) (o : Obj) : Chg (F2 r a) w (w1.alloc o) := h.grown (grown_of_below (one_box w1 o) none) (fun j e => by cases e)
theorem chg_self (w : World) (o : Obj) : Chg (F2 r a) w (w.alloc o) := chg_alloc (Chg.refl _ w) o
set_option maxHeartbeats 1000000 in
theorem count_any (h : RS B r a g q w) (m : Nat) (hm : m ≤ 1000) : Calls Try.prog 22 #[.pointer (some ⟨r, 0, none⟩), .int .i64 (m : Nat)] w fun e w' => ∃ n : Nat, n ≤ m ∧ e = .returned (.int .i64 (n : Nat)) ∧ RS B r a g (nx (pC m) q) w' ∧ Chg (F2 r a) w w' ∧ Is (pC m) q n := by
  have HI := Lib.hid (rdI_any h)
  have k0 := h.c0
  have HW := Lib.hid (fun x W => within_any x 0 (m : Int) W)
  have HWQ : Hid (∀ x : Int, witB x 0 (m : Int) = decide (0 ≤ x ∧ x ≤ m)) := by intro x; unfold witB; simp
  clear h
  go_enter Try.func22, Try.ntmps22
  go_wp2_with fail
  refine HI.out.mono ?_
  rintro e w1 ⟨x, rfl, h1, hc, hi⟩
  have H1 := Lib.hid h1
  have HC := Lib.hid hc
  have HS := Lib.hid hi
  obtain ⟨st, bd, d0, d1, d2⟩ := h1.cur
  have d3 := h1.fz
  clear h1 hc hi d0 d2 k0
  have HQ := Lib.hid (HWQ.out x)
  cases hw : witB x 0 (m : Int) with
  | true =>
    have hx : 0 ≤ x ∧ x ≤ m := by rw [HQ.out] at hw; simpa using hw
    have HW1 := Lib.hid (fun W => HW.out x W)
    rw [hw] at HW1
    obtain ⟨n, rfl⟩ : ∃ n : Nat, x = n := ⟨x.toNat, by omega⟩
    have HX := Lib.hid hx
    have hn : n ≤ m := by omega
    clear hw hx
    go_wp2_with fail
    refine (HW1.out _).mono ?_
    rintro e w2 ⟨rfl, rfl⟩
    go_wp2
    go_ret
    refine ⟨n, hn, rfl, ?_, HC.out, ?_⟩
    · unfold pC; rw [(nx_and HS.out).1, if_pos HX.out, nx_ret]; exact H1.out
    · unfold pC; exact is_and HS.out (by rw [if_pos HX.out]; exact is_ret)
  | false =>
    have hx : ¬ (0 ≤ x ∧ x ≤ m) := by rw [HQ.out] at hw; simpa using hw
    have HW1 := Lib.hid (fun W => HW.out x W)
    rw [hw] at HW1
    have HX := Lib.hid hx
    have HF := Lib.hid H1.out.failed
    clear hw hx
    go_wp2_with fail
    refine (HW1.out _).mono ?_
    rintro e w2 ⟨rfl, rfl⟩
    go_wp2
    go_ret
    refine ⟨0, Nat.zero_le _, rfl, ?_, chg2 HC.out HF.out.2, ?_⟩
    · unfold pC; rw [(nx_and HS.out).1, if_neg HX.out, nx_bad]; exact HF.out.1
    · unfold pC; exact is_and HS.out (by rw [if_neg HX.out]; exact is_bad)
theorem pV_k1 {s : Bool} {b : Bool} (h : Is pI q 1) (k : Is pB (nx pI q) b) : nx (pV s) q = nx pB (nx pI q) ∧ Is (pV s) q ⟨1, b, 0, 0, ⟨#[]⟩⟩ := by
  unfold pV; exact ⟨by rw [(nx_and h).1, if_pos rfl, (nx_and k).1, nx_ret], is_and h (by rw [if_pos rfl]; exact is_and k is_ret)⟩
theorem pV_k2 {s : Bool} {n : Int} (h : Is pI q 2) (k : Is pI (nx pI q) n) : nx (pV s) q = nx pI (nx pI q) ∧ Is (pV s) q ⟨2, false, n, 0, ⟨#[]⟩⟩ := by
  unfold pV; exact ⟨by rw [(nx_and h).1, if_neg (by decide), if_pos rfl, (nx_and k).1, nx_ret], is_and h (by rw [if_neg (by decide), if_pos rfl]; exact is_and k is_ret)⟩
theorem pV_k3 {s : Bool} {f : Nat} (h : Is pI q 3) (k : Is pR (nx pI q) f) : nx (pV s) q = nx pR (nx pI q) ∧ Is (pV s) q ⟨3, false, 0, f, ⟨#[]⟩⟩ := by
  unfold pV; exact ⟨by rw [(nx_and h).1, if_neg (by decide), if_neg (by decide), if_pos rfl, (nx_and k).1, nx_ret], is_and h (by rw [if_neg (by decide), if_neg (by decide), if_pos rfl]; exact is_and k is_ret)⟩
theorem pV_k4 {s : Bool} {t : ByteArray} (h : Is pI q 4) (k : Is pS (nx pI q) t) : nx (pV s) q = nx pS (nx pI q) ∧ Is (pV s) q ⟨4, false, 0, 0, t⟩ := by
  unfold pV; exact ⟨by rw [(nx_and h).1, if_neg (by decide), if_neg (by decide), if_neg (by decide), if_pos rfl, (nx_and k).1, nx_ret], is_and h (by rw [if_neg (by decide), if_neg (by decide), if_neg (by decide), if_pos rfl]; exact is_and k is_ret)⟩
theorem pV_k5 {x : Int} (h : Is pI q x) (h1 : x ≠ 1) (h2 : x ≠ 2) (h3 : x ≠ 3) (h4 : x ≠ 4) : nx (pV false) q = nx pI q ∧ Is (pV false) q ⟨x, false, 0, 0, ⟨#[]⟩⟩ := by
  unfold pV; exact ⟨by rw [(nx_and h).1, if_neg h1, if_neg h2, if_neg h3, if_neg h4, if_neg (by decide), nx_ret], is_and h (by rw [if_neg h1, if_neg h2, if_neg h3, if_neg h4, if_neg (by decide)]; exact is_ret)⟩
theorem pV_k6 {x : Int} {v : V} (h : Is pI q x) (h1 : x ≠ 1) (h2 : x ≠ 2) (h3 : x ≠ 3) (h4 : x ≠ 4) : nx (pV true) q = none ∧ Is (pV true) q v := by
  unfold pV; exact ⟨by rw [(nx_and h).1, if_neg h1, if_neg h2, if_neg h3, if_neg h4, if_pos rfl, nx_bad], is_and h (by rw [if_neg h1, if_neg h2, if_neg h3, if_neg h4, if_pos rfl]; exact is_bad)⟩
set_option maxHeartbeats 2000000 in
theorem rval_any (h : RS B r a g q w) : Calls Try.prog 75 #[.pointer (some ⟨r, 0, none⟩)] w (RdM (pV false) vv B r a g q w) := by
  obtain ⟨V, hV⟩ : ∃ V, V = w.alloc (.cells #[.int .i64 0, .bool false, .int .i64 0, .float .f64 0, .string ⟨#[]⟩] 47) := ⟨_, rfl⟩
  have hbx : BX V w.heap.size 47 #[.int .i64 0, .bool false, .int .i64 0, .float .f64 0, .string ⟨#[]⟩] := by rw [hV]; exact bx_new w _ _
  have hrs : RS B r a g q V := by rw [hV]; exact h.alloc _
  have hch : Chg (F2 r a) w V := by rw [hV]; exact chg_self w _
  have HI := Lib.hid (rdI_any hrs)
  have HB := Lib.hid hbx
  have HCH := Lib.hid hch
  have hBw : B ≤ w.heap.size := h.size
  have HNF := Lib.hid (fun k (hk : B ≤ k) => h.f2 hk)
  have HRB := Lib.hid (And.intro h.rB h.aB)
  have k0 := hrs.c0
  clear h hbx hrs hch
  go_enter Try.func75, Try.ntmps75
  go_upto_region 1 with fail
  rw [← hV]
  clear hV
  go_wp2_with fail
  refine HI.out.mono ?_
  rintro e w1 ⟨x, rfl, h1, hc, hi⟩
  obtain ⟨W1, hW1⟩ : ∃ W1, W1 = w1.alloc (.cells #[.int .i64 x, .bool false, .int .i64 0, .float .f64 0, .string ⟨#[]⟩] 47) := ⟨_, rfl⟩
  have HR1 : Hid (RS B r a g (nx pI q) W1) := by rw [hW1]; exact h1.alloc _
  have HB1 : Hid (BX W1 w.heap.size 47 #[.int .i64 0, .bool false, .int .i64 0, .float .f64 0, .string ⟨#[]⟩]) := by rw [hW1]; exact (HB.out.chg hc (HNF.out _ hBw)).below (one_box w1 _)
  have HB2 : Hid (BX W1 w1.heap.size 47 #[.int .i64 x, .bool false, .int .i64 0, .float .f64 0, .string ⟨#[]⟩]) := by rw [hW1]; exact bx_new w1 _ _
  have HC1 : Hid (Chg (F2 r a) w W1) := by rw [hW1]; exact chg_alloc (chg2 HCH.out hc) _
  have HSZ : w.heap.size < w1.heap.size := (HB.out.chg hc (HNF.out _ hBw)).lt
  have HS := Lib.hid hi
  have q0 := HB2.out.cell 0
  simp only [List.getElem?_toArray, List.getElem?_cons_zero] at q0
  go_upto_region 2 with fail
  rw [← hW1]
  clear hW1
  have hk1 := HR1.out.c0
  clear h1 hc hi k0 HI
  by_cases h1 : x = 1
  · subst h1
    have HM := Lib.hid (flag_any HR1.out)
    go_wp2_with fail
    refine HM.out.mono ?_
    rintro e w2 ⟨y, rfl, h2, hc2, hi2⟩
    have HR2 := Lib.hid h2
    have b1 := HB1.out.chg hc2 (HNF.out _ hBw)
    have b2 := HB2.out.chg hc2 (HNF.out _ (by omega))
    have HC2 := Lib.hid (chg2 HC1.out hc2)
    have HV := Lib.hid (pV_k1 HS.out hi2 (s := false))
    have HB3 := Lib.hid (And.intro b1 b2)
    have p0 := b1.cell 0; have p1 := b1.cell 1; have p2 := b1.cell 2; have p3 := b1.cell 3; have p4 := b1.cell 4
    have q0 := b2.cell 0; have q1 := b2.cell 1; have q2 := b2.cell 2; have q3 := b2.cell 3; have q4 := b2.cell 4
    have pf := b1.frozen; have qf := b2.frozen
    have hne : w.heap.size ≠ w1.heap.size := by omega
    simp only [List.getElem?_toArray, List.getElem?_cons_zero, List.getElem?_cons_succ] at p0 p1 p2 p3 p4 q0 q1 q2 q3 q4
    clear h2 hc2 hi2 b1 b2 hk1
    go_wp2
    have r1 := ((((((HB3.out.1.other hne 1 (.bool y)).set 0 (.int .i64 1)).set 1 (.bool y)).set 2 (.int .i64 0)).set 3 (.float .f64 0)).set 4 (.string ⟨#[]⟩))
    have s0 := r1.cell 0; have s1 := r1.cell 1; have s2 := r1.cell 2; have s3 := r1.cell 3; have s4 := r1.cell 4
    simp at s0 s1 s2 s3 s4
    refine bodyPost_ret (v := vv ⟨1, y, 0, 0, ⟨#[]⟩⟩) (by simp [results, Try.results75, go_sem, s0, s1, s2, s3, s4]; try rfl) rfl ⟨_, rfl, ?_, ?_, HV.out.2⟩
    · rw [HV.out.1]
      iterate 5 (with_reducible refine RS.set ?_ (by omega) _ _)
      exact HR2.out.set (by omega) _ _
    · iterate 5 (with_reducible refine chg_set ?_ (Nat.le_refl _) _ _)
      exact chg_set HC2.out (by omega) _ _
  by_cases h2 : x = 2
  · subst h2
    have HM := Lib.hid (rdI_any HR1.out)
    go_wp2_with fail
    refine HM.out.mono ?_
    rintro e w2 ⟨y, rfl, h2, hc2, hi2⟩
    have HR2 := Lib.hid h2
    have b1 := HB1.out.chg hc2 (HNF.out _ hBw)
    have b2 := HB2.out.chg hc2 (HNF.out _ (by omega))
    have HC2 := Lib.hid (chg2 HC1.out hc2)
    have HV := Lib.hid (pV_k2 HS.out hi2 (s := false))
    have HB3 := Lib.hid (And.intro b1 b2)
    have p0 := b1.cell 0; have p1 := b1.cell 1; have p2 := b1.cell 2; have p3 := b1.cell 3; have p4 := b1.cell 4
    have q0 := b2.cell 0; have q1 := b2.cell 1; have q2 := b2.cell 2; have q3 := b2.cell 3; have q4 := b2.cell 4
    have pf := b1.frozen; have qf := b2.frozen
    have hne : w.heap.size ≠ w1.heap.size := by omega
    simp only [List.getElem?_toArray, List.getElem?_cons_zero, List.getElem?_cons_succ] at p0 p1 p2 p3 p4 q0 q1 q2 q3 q4
    clear h2 hc2 hi2 b1 b2 hk1
    go_wp2
    have r1 := ((((((HB3.out.1.other hne 2 (.int .i64 y)).set 0 (.int .i64 2)).set 1 (.bool false)).set 2 (.int .i64 y)).set 3 (.float .f64 0)).set 4 (.string ⟨#[]⟩))
    have s0 := r1.cell 0; have s1 := r1.cell 1; have s2 := r1.cell 2; have s3 := r1.cell 3; have s4 := r1.cell 4
    simp at s0 s1 s2 s3 s4
    refine bodyPost_ret (v := vv ⟨2, false, y, 0, ⟨#[]⟩⟩) (by simp [results, Try.results75, go_sem, s0, s1, s2, s3, s4]; try rfl) rfl ⟨_, rfl, ?_, ?_, HV.out.2⟩
    · rw [HV.out.1]
      iterate 5 (with_reducible refine RS.set ?_ (by omega) _ _)
      exact HR2.out.set (by omega) _ _
    · iterate 5 (with_reducible refine chg_set ?_ (Nat.le_refl _) _ _)
      exact chg_set HC2.out (by omega) _ _
  by_cases h3 : x = 3
  · subst h3
    have HM := Lib.hid (rdR_any HR1.out)
    go_wp2_with fail
    refine HM.out.mono ?_
    rintro e w2 ⟨y, rfl, h2, hc2, hi2⟩
    have HR2 := Lib.hid h2
    have b1 := HB1.out.chg hc2 (HNF.out _ hBw)
    have b2 := HB2.out.chg hc2 (HNF.out _ (by omega))
    have HC2 := Lib.hid (chg2 HC1.out hc2)
    have HV := Lib.hid (pV_k3 HS.out hi2 (s := false))
    have HB3 := Lib.hid (And.intro b1 b2)
    have p0 := b1.cell 0; have p1 := b1.cell 1; have p2 := b1.cell 2; have p3 := b1.cell 3; have p4 := b1.cell 4
    have q0 := b2.cell 0; have q1 := b2.cell 1; have q2 := b2.cell 2; have q3 := b2.cell 3; have q4 := b2.cell 4
    have pf := b1.frozen; have qf := b2.frozen
    have hne : w.heap.size ≠ w1.heap.size := by omega
    simp only [List.getElem?_toArray, List.getElem?_cons_zero, List.getElem?_cons_succ] at p0 p1 p2 p3 p4 q0 q1 q2 q3 q4
    clear h2 hc2 hi2 b1 b2 hk1
    go_wp2
    have r1 := ((((((HB3.out.1.other hne 3 (.float .f64 y)).set 0 (.int .i64 3)).set 1 (.bool false)).set 2 (.int .i64 0)).set 3 (.float .f64 y)).set 4 (.string ⟨#[]⟩))
    have s0 := r1.cell 0; have s1 := r1.cell 1; have s2 := r1.cell 2; have s3 := r1.cell 3; have s4 := r1.cell 4
    simp at s0 s1 s2 s3 s4
    refine bodyPost_ret (v := vv ⟨3, false, 0, y, ⟨#[]⟩⟩) (by simp [results, Try.results75, go_sem, s0, s1, s2, s3, s4]; try rfl) rfl ⟨_, rfl, ?_, ?_, HV.out.2⟩
    · rw [HV.out.1]
      iterate 5 (with_reducible refine RS.set ?_ (by omega) _ _)
      exact HR2.out.set (by omega) _ _
    · iterate 5 (with_reducible refine chg_set ?_ (Nat.le_refl _) _ _)
      exact chg_set HC2.out (by omega) _ _
  by_cases h4 : x = 4
  · subst h4
    have HM := Lib.hid (rdS_any HR1.out)
    go_wp2_with fail
    refine HM.out.mono ?_
    rintro e w2 ⟨y, rfl, h2, hc2, hi2⟩
    have HR2 := Lib.hid h2
    have b1 := HB1.out.chg hc2 (HNF.out _ hBw)
    have b2 := HB2.out.chg hc2 (HNF.out _ (by omega))
    have HC2 := Lib.hid (chg2 HC1.out hc2)
    have HV := Lib.hid (pV_k4 HS.out hi2 (s := false))
    have HB3 := Lib.hid (And.intro b1 b2)
    have p0 := b1.cell 0; have p1 := b1.cell 1; have p2 := b1.cell 2; have p3 := b1.cell 3; have p4 := b1.cell 4
    have q0 := b2.cell 0; have q1 := b2.cell 1; have q2 := b2.cell 2; have q3 := b2.cell 3; have q4 := b2.cell 4
    have pf := b1.frozen; have qf := b2.frozen
    have hne : w.heap.size ≠ w1.heap.size := by omega
    simp only [List.getElem?_toArray, List.getElem?_cons_zero, List.getElem?_cons_succ] at p0 p1 p2 p3 p4 q0 q1 q2 q3 q4
    clear h2 hc2 hi2 b1 b2 hk1
    go_wp2
    have r1 := ((((((HB3.out.1.other hne 4 (.string y)).set 0 (.int .i64 4)).set 1 (.bool false)).set 2 (.int .i64 0)).set 3 (.float .f64 0)).set 4 (.string y))
    have s0 := r1.cell 0; have s1 := r1.cell 1; have s2 := r1.cell 2; have s3 := r1.cell 3; have s4 := r1.cell 4
    simp at s0 s1 s2 s3 s4
    refine bodyPost_ret (v := vv ⟨4, false, 0, 0, y⟩) (by simp [results, Try.results75, go_sem, s0, s1, s2, s3, s4]; try rfl) rfl ⟨_, rfl, ?_, ?_, HV.out.2⟩
    · rw [HV.out.1]
      iterate 5 (with_reducible refine RS.set ?_ (by omega) _ _)
      exact HR2.out.set (by omega) _ _
    · iterate 5 (with_reducible refine chg_set ?_ (Nat.le_refl _) _ _)
      exact chg_set HC2.out (by omega) _ _
  have e1 : (x == 1) = false := by simpa using h1
  have e2 : (x == 2) = false := by simpa using h2
  have e3 : (x == 3) = false := by simpa using h3
  have e4 : (x == 4) = false := by simpa using h4
  have HV := Lib.hid (pV_k5 HS.out h1 h2 h3 h4)
  clear h1 h2 h3 h4
  have b1 := HB1.out
  have b2 := HB2.out
  have HB3 := Lib.hid (And.intro b1 b2)
  have p0 := b1.cell 0; have p1 := b1.cell 1; have p2 := b1.cell 2; have p3 := b1.cell 3; have p4 := b1.cell 4
  have q0 := b2.cell 0; have q1 := b2.cell 1; have q2 := b2.cell 2; have q3 := b2.cell 3; have q4 := b2.cell 4
  have pf := b1.frozen; have qf := b2.frozen
  have hne : w.heap.size ≠ w1.heap.size := by omega
  simp only [List.getElem?_toArray, List.getElem?_cons_zero, List.getElem?_cons_succ] at p0 p1 p2 p3 p4 q0 q1 q2 q3 q4
  clear b1 b2 hk1
  go_wp2
  have r1 := (((((HB3.out.1.set 0 (.int .i64 x)).set 1 (.bool false)).set 2 (.int .i64 0)).set 3 (.float .f64 0)).set 4 (.string ⟨#[]⟩))
  have s0 := r1.cell 0; have s1 := r1.cell 1; have s2 := r1.cell 2; have s3 := r1.cell 3; have s4 := r1.cell 4
  simp at s0 s1 s2 s3 s4
  refine bodyPost_ret (v := vv ⟨x, false, 0, 0, ⟨#[]⟩⟩) (by simp [results, Try.results75, go_sem, s0, s1, s2, s3, s4]; try rfl) rfl ⟨_, rfl, ?_, ?_, HV.out.2⟩
  · rw [HV.out.1]
    iterate 5 (with_reducible refine RS.set ?_ (by omega) _ _)
    exact HR1.out
  · iterate 5 (with_reducible refine chg_set ?_ (Nat.le_refl _) _ _)
    exact HC1.out
end
end Go.Proofs.Ytdhpphbgobakhaa
