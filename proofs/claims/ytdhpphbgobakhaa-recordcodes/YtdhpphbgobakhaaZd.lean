/- The program's consistent of chapter 10: its contract. Conditions: the node's rows lie in memory; words of float64 are below 2^64; strings are of a length that Go allows. -/
import Derived.Test.YtdhpphbgobakhaaZc
namespace Go.Proofs.Ytdhpphbgobakhaa
set_option maxRecDepth 100000
set_option linter.unusedVariables false
open Go.ChangeShapes Go.WideShapes Go.ChangeAt Go.RowKit
open Fl (S cmpK keyN normN)
open Val (V cmpV isB ltT)
def consB (x : Wr) : Bool := if x.gone then emptyN x.n && zeroE x.g else if x.e then emptyN x.n && edgeB x.g else nodeB x.n && zeroE x.g
theorem writeB_eq (nn ne : Int) (x : Wr) : writeB nn ne x = (witB x.id 1 (if x.e then ne else nn) && consB x) := by
  have hz : zeroE x.g = true → edgeB x.g = false := zeroE_bad
  obtain ⟨e, id, g, n, eg⟩ := x
  unfold writeB witB consB
  simp only at hz ⊢
  generalize emptyN n = a at *
  generalize zeroE eg = b at *
  generalize edgeB eg = c at *
  generalize nodeB n = d at *
  cases e with
  | true =>
    simp only [if_true]
    generalize (decide (1 ≤ id) && decide (id ≤ ne)) = q
    cases g <;> cases a <;> cases b <;> cases c <;> simp at hz ⊢
  | false =>
    simp only [Bool.false_eq_true, if_false]
    generalize (decide (1 ≤ id) && decide (id ≤ nn)) = q
    cases g <;> cases a <;> cases b <;> cases d <;> simp
set_option maxHeartbeats 1000000 in
theorem pcons_any (x : Wr) (s : Ns) (w : World) (hw : x.g.w < 2 * S) (ht : x.g.t.size ≤ maxLen) (hn : NdAt w x.n s) (ho : NdOk x.n) : Calls Try.prog 36 #[wrv x s] w fun r w' => r = .returned (.bool (consB x)) ∧ Below w.heap.size w w' := by
  have hl1 := ho.l1
  have hl2 := ho.l2
  have HX := Lib.hid (fun W (hW : Below (w.alloc (.cells (wrc x s) 45)).heap.size (w.alloc (.cells (wrc x s) 45)) W) => wb_box (heap_alloc_new w (.cells (wrc x s) 45)) hW)
  have hal := one_box w (.cells (wrc x s) 45)
  have HAL := Lib.hid hal
  have HS := Lib.hid (fun W => psame_zero x.n s W hl1 hl2)
  have HZ := Lib.hid (fun W => psameedge_zero x.g hw W)
  have HE := Lib.hid (fun W => pedge_any x.g ht W)
  have HN := Lib.hid (fun W (hW : Below (w.alloc (.cells (wrc x s) 45)).heap.size (w.alloc (.cells (wrc x s) 45)) W) => pnode_any x.n s W ((hn.below hal).below hW) ho)
  have HD : Hid (consB x = (if x.gone then emptyN x.n && zeroE x.g else if x.e then emptyN x.n && edgeB x.g else nodeB x.n && zeroE x.g)) := rfl
  generalize emptyN x.n = em at *
  generalize zeroE x.g = zb at *
  generalize edgeB x.g = eb at *
  generalize nodeB x.n = nb at *
  generalize consB x = r at *
  clear hw ht hn ho hal
  obtain ⟨e, id, gone, ⟨ls, ps⟩, ⟨ga, gb, gt, gw⟩⟩ := x
  obtain ⟨A, lc, B, pc⟩ := s
  unfold WB wrc at HX
  unfold wrc at HAL HN
  simp only at hl1 hl2 HX HAL HS HZ HE HN HD
  unfold zS zN at HS
  unfold zE at HZ
  obtain ⟨V, hV⟩ : ∃ V, V = w.alloc (.cells #[.bool e, .int .i64 id, .bool gone, .slice A ls.length lc, .slice B ps.length pc, .int .i64 ga, .int .i64 gb, .string gt, .float .f64 gw] 45) := ⟨_, rfl⟩
  rw [← hV] at HX HAL HN
  obtain ⟨k0, k1, k2, k3, k4, k5, k6, k7, k8⟩ := HX.out _ (Below.refl _ _)
  go_enter Try.func36, Try.ntmps36
  go_upto_region 1 with fail
  rw [← hV]
  clear hV
  clear k0 k1 k2 k3 k4 k5 k6 k7 k8
  have g0 := fun d os => (HX.out _ (below_regrown V d os)).1
  have g1 := fun d os => (HX.out _ (below_regrown V d os)).2.1
  have g2 := fun d os => (HX.out _ (below_regrown V d os)).2.2.1
  have g3 := fun d os => (HX.out _ (below_regrown V d os)).2.2.2.1
  have g4 := fun d os => (HX.out _ (below_regrown V d os)).2.2.2.2.1
  have g5 := fun d os => (HX.out _ (below_regrown V d os)).2.2.2.2.2.1
  have g6 := fun d os => (HX.out _ (below_regrown V d os)).2.2.2.2.2.2.1
  have g7 := fun d os => (HX.out _ (below_regrown V d os)).2.2.2.2.2.2.2.1
  have g8 := fun d os => (HX.out _ (below_regrown V d os)).2.2.2.2.2.2.2.2
  refine wp_region_quiet_below (by kernel_rfl) (by kernel_rfl) ?_
  repeat (go_big_quiet_step ((first
      | (go_at_call 61; with_reducible exact Calls.regrown_of (HS.out _))
      | (go_at_call 62; with_reducible exact Calls.regrown_of (HZ.out _)))))
  refine wpQuiet_nil ?_
  intro _ hw'
  obtain ⟨⟨dq, osq⟩, hw''⟩ := hw'
  subst hw''
  have hb2 := below_regrown V dq osq
  have HB2 := Lib.hid (HAL.out.trans (hb2.mono HAL.out.size))
  have HBV := Lib.hid hb2
  clear g0 g1 g2 g3 g4 g5 g6 g7 g8 hb2
  obtain ⟨k0, k1, k2, k3, k4, k5, k6, k7, k8⟩ := HX.out _ HBV.out
  cases gone with
  | true =>
    have HR := Lib.hid (show r = (em && zb) by rw [HD.out]; rfl)
    cases em <;> cases zb
    all_goals
      go_wp2
      go_ret
      exact ⟨ret_b HR.out.symm, HB2.out⟩
  | false =>
    cases e with
    | true =>
      have HR := Lib.hid (show r = (em && eb) by rw [HD.out]; rfl)
      cases em with
      | false =>
        go_wp2
        go_ret
        exact ⟨ret_b HR.out.symm, HB2.out⟩
      | true =>
        go_wp2_with fail
        (with_reducible refine (HE.out _).mono ?_); rintro e w1 ⟨rfl, hb⟩
        have B1 := Lib.hid hb
        clear hb
        go_wp2
        go_ret
        exact ⟨ret_b HR.out.symm, bnext HB2.out B1.out⟩
    | false =>
      have HR := Lib.hid (show r = (nb && zb) by rw [HD.out]; rfl)
      cases nb
      all_goals
        go_wp2_with fail
        (with_reducible refine (HN.out _ HBV.out).mono ?_); rintro e w1 ⟨rfl, hb⟩
        have B1 := Lib.hid hb
        clear hb
        go_wp2
        go_ret
        exact ⟨ret_b HR.out.symm, bnext HB2.out B1.out⟩
end Go.Proofs.Ytdhpphbgobakhaa
