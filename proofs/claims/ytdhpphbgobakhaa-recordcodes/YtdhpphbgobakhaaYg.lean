/- Writes of chapter 10 in memory; the reference's write for an edge. Conditions: the node's rows lie in memory; strings are of a length that Go allows. -/
import Derived.Test.YtdhpphbgobakhaaYe
namespace Go.Proofs.Ytdhpphbgobakhaa
set_option maxRecDepth 100000
set_option linter.unusedVariables false
open Go.ChangeShapes Go.WideShapes Go.ChangeAt Go.RowKit
open Fl (S cmpK keyN)
open Val (V cmpV isB ltT)
abbrev wrv (w : Wr) (s : Ns) : Value := .agg #[.bool w.e, .int .i64 w.id, .bool w.gone, .slice s.la w.n.ls.length s.lc, .slice s.pa w.n.ps.length s.pc, .int .i64 w.g.a, .int .i64 w.g.b, .string w.g.t, .float .f64 w.g.w]
def emptyN (n : Nd) : Bool := decide (n.ls.length = 0) && decide (n.ps.length = 0)
def writeB (nn ne : Int) (w : Wr) : Bool :=
  if w.e then decide (1 ≤ w.id) && decide (w.id ≤ ne) && emptyN w.n && (edgeB w.g != w.gone) && (!w.gone || zeroE w.g)
  else decide (1 ≤ w.id) && decide (w.id ≤ nn) && zeroE w.g && ((w.gone && emptyN w.n) || (!w.gone && nodeB w.n))
/-- The cells of a write that is boxed at block g. -/
def WB (W : World) (g : Nat) (x : Wr) (s : Ns) : Prop := W.cell? ⟨g, 0, none⟩ = some (.bool x.e) ∧ W.cell? ⟨g, 1, none⟩ = some (.int .i64 x.id) ∧ W.cell? ⟨g, 2, none⟩ = some (.bool x.gone) ∧ W.cell? ⟨g, 3, none⟩ = some (.slice s.la x.n.ls.length s.lc) ∧ W.cell? ⟨g, 4, none⟩ = some (.slice s.pa x.n.ps.length s.pc) ∧ W.cell? ⟨g, 5, none⟩ = some (.int .i64 x.g.a) ∧ W.cell? ⟨g, 6, none⟩ = some (.int .i64 x.g.b) ∧ W.cell? ⟨g, 7, none⟩ = some (.string x.g.t) ∧ W.cell? ⟨g, 8, none⟩ = some (.float .f64 x.g.w)
abbrev wrc (x : Wr) (s : Ns) : Array Value := #[.bool x.e, .int .i64 x.id, .bool x.gone, .slice s.la x.n.ls.length s.lc, .slice s.pa x.n.ps.length s.pc, .int .i64 x.g.a, .int .i64 x.g.b, .string x.g.t, .float .f64 x.g.w]
theorem wb_box {W W' : World} {g : Nat} {x : Wr} {s : Ns} (h : W.heap[g]? = some (.cells (wrc x s) 45 (0, 0))) (hb : Below W.heap.size W W') : WB W' g x s := by
  have hq := (hb.block _ (block_of h)).trans h
  refine ⟨?_, ?_, ?_, ?_, ?_, ?_, ?_, ?_, ?_⟩ <;> rw [cell_of_row W' g _ _ _ _ hq] <;> rfl
set_option maxHeartbeats 2000000 in
theorem rwrite_edge (nn ne : Int) (x : Wr) (s : Ns) (w : World) (he : x.e = true) (ht : x.g.t.size ≤ maxLen) (hl1 : x.n.ls.length ≤ 1000000) (hl2 : x.n.ps.length ≤ 1000000) : Calls Try.prog 42 #[.int .i64 nn, .int .i64 ne, wrv x s] w fun r w' => r = .returned (.bool (writeB nn ne x)) ∧ Below w.heap.size w w' := by
  have HX := Lib.hid (fun d os => wb_box (heap_alloc_new w (.cells (wrc x s) 45)) (below_regrown _ d os))
  have HX0 := Lib.hid (wb_box (heap_alloc_new w (.cells (wrc x s) 45)) (Below.refl _ _))
  have hal := Lib.hid (one_box w (.cells (wrc x s) 45))
  have HE := Lib.hid (fun W => redge_any x.g ht W)
  have HZ := Lib.hid (fun W => rnone_any x.g W)
  have HD : Hid (writeB nn ne x = (decide (1 ≤ x.id) && decide (x.id ≤ ne) && emptyN x.n && (edgeB x.g != x.gone) && (!x.gone || zeroE x.g))) := by simp only [Hid]; unfold writeB; rw [he]; rfl
  have HEM : Hid (emptyN x.n = (decide (x.n.ls.length = 0) && decide (x.n.ps.length = 0))) := rfl
  generalize edgeB x.g = eb at *
  generalize zeroE x.g = zb at *
  generalize writeB nn ne x = r at *
  generalize emptyN x.n = em at *
  clear ht
  obtain ⟨e, id, gone, ⟨ls, ps⟩, ⟨ga, gb, gt, gw⟩⟩ := x
  obtain ⟨A, lc, B, pc⟩ := s
  simp only at he hl1 hl2
  subst he
  unfold WB at HX HX0
  simp only at HX HX0 hal
  have hcase : (ls.length = 0 ∧ (((ls.length : Nat) : Int) == 0) = true) ∨ (ls.length ≠ 0 ∧ (((ls.length : Nat) : Int) == 0) = false) := by
    by_cases h : ls.length = 0
    · exact .inl ⟨h, by simp [h]⟩
    · exact .inr ⟨h, by simpa using h⟩
  have hcase2 : (ps.length = 0 ∧ (((ps.length : Nat) : Int) == 0) = true) ∨ (ps.length ≠ 0 ∧ (((ps.length : Nat) : Int) == 0) = false) := by
    by_cases h : ps.length = 0
    · exact .inl ⟨h, by simp [h]⟩
    · exact .inr ⟨h, by simpa using h⟩
  have HLA := Lib.hid hcase
  have HLB := Lib.hid hcase2
  clear hcase hcase2
  simp only at HE HZ HEM HD
  unfold wrc at HX HX0 hal
  simp only at HX HX0 hal
  obtain ⟨V, hV⟩ : ∃ V, V = w.alloc (.cells #[.bool true, .int .i64 id, .bool gone, .slice A ls.length lc, .slice B ps.length pc, .int .i64 ga, .int .i64 gb, .string gt, .float .f64 gw] 45) := ⟨_, rfl⟩
  rw [← hV] at HX HX0 hal
  go_enter Try.func42, Try.ntmps42
  go_upto_region 1 with fail
  rw [← hV]
  clear hV
  obtain ⟨k0, k1, k2, k3, k4, k5, k6, k7, k8⟩ := HX0.out
  go_cut [7] from 8 to 19 (fun v wx => v = .bool em ∧ V = wx)
  case first =>
    rcases HLA.out with ⟨h1, h2⟩ | ⟨h1, h2⟩ <;> rcases HLB.out with ⟨h3, h4⟩ | ⟨h3, h4⟩
    all_goals
      have HEQ : Hid (em = (decide (ls.length = 0) && decide (ps.length = 0))) := HEM.out
      have HV2 := Lib.hid (show (decide (ls.length = 0) && decide (ps.length = 0)) = (((ls.length : Nat) : Int) == 0 && ((ps.length : Nat) : Int) == 0) by rw [h2, h4]; simp [h1, h3])
      clear h1 h3
      go_wp2
      go_meet
      exact ⟨by rw [HEQ.out, HV2.out, h2, h4]; first | rfl | simp, rfl⟩
  case rest =>
    obtain ⟨rfl, rfl⟩ := hcut
    clear HEM HLA HLB
    by_cases h1 : 1 ≤ id
    case neg =>
      have HR := Lib.hid (show r = false by rw [HD.out, decide_eq_false h1]; rfl)
      go_upto_region 3 with fail
      have g0 := fun d os => (HX.out d os).1
      have g1 := fun d os => (HX.out d os).2.1
      have g2 := fun d os => (HX.out d os).2.2.1
      have g3 := fun d os => (HX.out d os).2.2.2.1
      have g4 := fun d os => (HX.out d os).2.2.2.2.1
      have g5 := fun d os => (HX.out d os).2.2.2.2.2.1
      have g6 := fun d os => (HX.out d os).2.2.2.2.2.2.1
      have g7 := fun d os => (HX.out d os).2.2.2.2.2.2.2.1
      have g8 := fun d os => (HX.out d os).2.2.2.2.2.2.2.2
      refine wp_region_quiet_below (by kernel_rfl) (by kernel_rfl) ?_
      repeat (go_big_quiet_step ((first
          | (go_at_call 68; with_reducible exact Calls.regrown_of (HE.out _))
          | (go_at_call 69; with_reducible exact Calls.regrown_of (HZ.out _)))))
      refine wpQuiet_nil ?_
      intro _ hw'
      obtain ⟨⟨dq, osq⟩, hw''⟩ := hw'
      subst hw''
      have HB2 := Lib.hid (hal.out.trans ((below_regrown V dq osq).mono hal.out.size))
      clear g0 g1 g2 g3 g4 g5 g6 g7 g8
      go_wp2
      go_ret
      exact ⟨ret_b HR.out.symm, HB2.out⟩
    by_cases h2 : id ≤ ne
    case neg =>
      have HR := Lib.hid (show r = false by rw [HD.out, decide_eq_false h2]; simp)
      go_upto_region 3 with fail
      have g0 := fun d os => (HX.out d os).1
      have g1 := fun d os => (HX.out d os).2.1
      have g2 := fun d os => (HX.out d os).2.2.1
      have g3 := fun d os => (HX.out d os).2.2.2.1
      have g4 := fun d os => (HX.out d os).2.2.2.2.1
      have g5 := fun d os => (HX.out d os).2.2.2.2.2.1
      have g6 := fun d os => (HX.out d os).2.2.2.2.2.2.1
      have g7 := fun d os => (HX.out d os).2.2.2.2.2.2.2.1
      have g8 := fun d os => (HX.out d os).2.2.2.2.2.2.2.2
      refine wp_region_quiet_below (by kernel_rfl) (by kernel_rfl) ?_
      repeat (go_big_quiet_step ((first
          | (go_at_call 68; with_reducible exact Calls.regrown_of (HE.out _))
          | (go_at_call 69; with_reducible exact Calls.regrown_of (HZ.out _)))))
      refine wpQuiet_nil ?_
      intro _ hw'
      obtain ⟨⟨dq, osq⟩, hw''⟩ := hw'
      subst hw''
      have HB2 := Lib.hid (hal.out.trans ((below_regrown V dq osq).mono hal.out.size))
      clear g0 g1 g2 g3 g4 g5 g6 g7 g8
      go_wp2
      go_ret
      exact ⟨ret_b HR.out.symm, HB2.out⟩
    have HQ := Lib.hid (show r = (em && (eb != gone) && (!gone || zb)) by rw [HD.out, decide_eq_true h1, decide_eq_true h2]; simp)
    cases em with
    | false =>
      have HR := Lib.hid (show r = false by rw [HQ.out]; simp)
      go_upto_region 3 with fail
      have g0 := fun d os => (HX.out d os).1
      have g1 := fun d os => (HX.out d os).2.1
      have g2 := fun d os => (HX.out d os).2.2.1
      have g3 := fun d os => (HX.out d os).2.2.2.1
      have g4 := fun d os => (HX.out d os).2.2.2.2.1
      have g5 := fun d os => (HX.out d os).2.2.2.2.2.1
      have g6 := fun d os => (HX.out d os).2.2.2.2.2.2.1
      have g7 := fun d os => (HX.out d os).2.2.2.2.2.2.2.1
      have g8 := fun d os => (HX.out d os).2.2.2.2.2.2.2.2
      refine wp_region_quiet_below (by kernel_rfl) (by kernel_rfl) ?_
      repeat (go_big_quiet_step ((first
          | (go_at_call 68; with_reducible exact Calls.regrown_of (HE.out _))
          | (go_at_call 69; with_reducible exact Calls.regrown_of (HZ.out _)))))
      refine wpQuiet_nil ?_
      intro _ hw'
      obtain ⟨⟨dq, osq⟩, hw''⟩ := hw'
      subst hw''
      have HB2 := Lib.hid (hal.out.trans ((below_regrown V dq osq).mono hal.out.size))
      clear g0 g1 g2 g3 g4 g5 g6 g7 g8
      go_wp2
      go_ret
      exact ⟨ret_b HR.out.symm, HB2.out⟩
    | true =>
      cases gone with
      | true =>
        cases eb with
        | true =>
          have HR := Lib.hid (show r = false by rw [HQ.out]; simp)
          go_upto_region 3 with fail
          have g0 := fun d os => (HX.out d os).1
          have g1 := fun d os => (HX.out d os).2.1
          have g2 := fun d os => (HX.out d os).2.2.1
          have g3 := fun d os => (HX.out d os).2.2.2.1
          have g4 := fun d os => (HX.out d os).2.2.2.2.1
          have g5 := fun d os => (HX.out d os).2.2.2.2.2.1
          have g6 := fun d os => (HX.out d os).2.2.2.2.2.2.1
          have g7 := fun d os => (HX.out d os).2.2.2.2.2.2.2.1
          have g8 := fun d os => (HX.out d os).2.2.2.2.2.2.2.2
          refine wp_region_quiet_below (by kernel_rfl) (by kernel_rfl) ?_
          repeat (go_big_quiet_step ((first
              | (go_at_call 68; with_reducible exact Calls.regrown_of (HE.out _))
              | (go_at_call 69; with_reducible exact Calls.regrown_of (HZ.out _)))))
          refine wpQuiet_nil ?_
          intro _ hw'
          obtain ⟨⟨dq, osq⟩, hw''⟩ := hw'
          subst hw''
          have HB2 := Lib.hid (hal.out.trans ((below_regrown V dq osq).mono hal.out.size))
          clear g0 g1 g2 g3 g4 g5 g6 g7 g8
          go_wp2
          go_ret
          exact ⟨ret_b HR.out.symm, HB2.out⟩
        | false =>
          have HR := Lib.hid (show r = zb by rw [HQ.out]; simp)
          go_upto_region 3 with fail
          have g0 := fun d os => (HX.out d os).1
          have g1 := fun d os => (HX.out d os).2.1
          have g2 := fun d os => (HX.out d os).2.2.1
          have g3 := fun d os => (HX.out d os).2.2.2.1
          have g4 := fun d os => (HX.out d os).2.2.2.2.1
          have g5 := fun d os => (HX.out d os).2.2.2.2.2.1
          have g6 := fun d os => (HX.out d os).2.2.2.2.2.2.1
          have g7 := fun d os => (HX.out d os).2.2.2.2.2.2.2.1
          have g8 := fun d os => (HX.out d os).2.2.2.2.2.2.2.2
          refine wp_region_quiet_below (by kernel_rfl) (by kernel_rfl) ?_
          repeat (go_big_quiet_step ((first
              | (go_at_call 68; with_reducible exact Calls.regrown_of (HE.out _))
              | (go_at_call 69; with_reducible exact Calls.regrown_of (HZ.out _)))))
          refine wpQuiet_nil ?_
          intro _ hw'
          obtain ⟨⟨dq, osq⟩, hw''⟩ := hw'
          subst hw''
          have HB2 := Lib.hid (hal.out.trans ((below_regrown V dq osq).mono hal.out.size))
          clear g0 g1 g2 g3 g4 g5 g6 g7 g8
          go_wp2
          go_ret
          exact ⟨ret_b HR.out.symm, HB2.out⟩
      | false =>
        cases eb with
        | true =>
          have HR := Lib.hid (show r = true by rw [HQ.out]; simp)
          go_upto_region 3 with fail
          have g0 := fun d os => (HX.out d os).1
          have g1 := fun d os => (HX.out d os).2.1
          have g2 := fun d os => (HX.out d os).2.2.1
          have g3 := fun d os => (HX.out d os).2.2.2.1
          have g4 := fun d os => (HX.out d os).2.2.2.2.1
          have g5 := fun d os => (HX.out d os).2.2.2.2.2.1
          have g6 := fun d os => (HX.out d os).2.2.2.2.2.2.1
          have g7 := fun d os => (HX.out d os).2.2.2.2.2.2.2.1
          have g8 := fun d os => (HX.out d os).2.2.2.2.2.2.2.2
          refine wp_region_quiet_below (by kernel_rfl) (by kernel_rfl) ?_
          repeat (go_big_quiet_step ((first
              | (go_at_call 68; with_reducible exact Calls.regrown_of (HE.out _))
              | (go_at_call 69; with_reducible exact Calls.regrown_of (HZ.out _)))))
          refine wpQuiet_nil ?_
          intro _ hw'
          obtain ⟨⟨dq, osq⟩, hw''⟩ := hw'
          subst hw''
          have HB2 := Lib.hid (hal.out.trans ((below_regrown V dq osq).mono hal.out.size))
          clear g0 g1 g2 g3 g4 g5 g6 g7 g8
          go_wp2
          go_ret
          exact ⟨ret_b HR.out.symm, HB2.out⟩
        | false =>
          have HR := Lib.hid (show r = false by rw [HQ.out]; simp)
          go_upto_region 3 with fail
          have g0 := fun d os => (HX.out d os).1
          have g1 := fun d os => (HX.out d os).2.1
          have g2 := fun d os => (HX.out d os).2.2.1
          have g3 := fun d os => (HX.out d os).2.2.2.1
          have g4 := fun d os => (HX.out d os).2.2.2.2.1
          have g5 := fun d os => (HX.out d os).2.2.2.2.2.1
          have g6 := fun d os => (HX.out d os).2.2.2.2.2.2.1
          have g7 := fun d os => (HX.out d os).2.2.2.2.2.2.2.1
          have g8 := fun d os => (HX.out d os).2.2.2.2.2.2.2.2
          refine wp_region_quiet_below (by kernel_rfl) (by kernel_rfl) ?_
          repeat (go_big_quiet_step ((first
              | (go_at_call 68; with_reducible exact Calls.regrown_of (HE.out _))
              | (go_at_call 69; with_reducible exact Calls.regrown_of (HZ.out _)))))
          refine wpQuiet_nil ?_
          intro _ hw'
          obtain ⟨⟨dq, osq⟩, hw''⟩ := hw'
          subst hw''
          have HB2 := Lib.hid (hal.out.trans ((below_regrown V dq osq).mono hal.out.size))
          clear g0 g1 g2 g3 g4 g5 g6 g7 g8
          go_wp2
          go_ret
          exact ⟨ret_b HR.out.symm, HB2.out⟩
end Go.Proofs.Ytdhpphbgobakhaa
