/- The reference's write of chapter 10 for a node, and for any write. Conditions: the node's rows lie in memory; strings are of a length that Go allows. -/
import Derived.Test.YtdhpphbgobakhaaYg
namespace Go.Proofs.Ytdhpphbgobakhaa
set_option maxRecDepth 100000
set_option linter.unusedVariables false
open Go.ChangeShapes Go.WideShapes Go.ChangeAt Go.RowKit
open Fl (S cmpK keyN)
open Val (V cmpV isB ltT)
set_option maxHeartbeats 2000000 in
theorem rwrite_node (nn ne : Int) (x : Wr) (s : Ns) (w : World) (he : x.e = false) (hn : NdAt w x.n s) (ho : NdOk x.n) : Calls Try.prog 42 #[.int .i64 nn, .int .i64 ne, wrv x s] w fun r w' => r = .returned (.bool (writeB nn ne x)) ∧ Below w.heap.size w w' := by
  have hl1 := ho.l1
  have hl2 := ho.l2
  have HX := Lib.hid (fun W (hW : Below (w.alloc (.cells (wrc x s) 45)).heap.size (w.alloc (.cells (wrc x s) 45)) W) => wb_box (heap_alloc_new w (.cells (wrc x s) 45)) hW)
  have HX0 := Lib.hid (wb_box (heap_alloc_new w (.cells (wrc x s) 45)) (Below.refl _ _))
  have hal := Lib.hid (one_box w (.cells (wrc x s) 45))
  have HE := Lib.hid (fun W (hW : Below w.heap.size w W) => rnode_any x.n s W (hn.below hW) ho)
  have HZ := Lib.hid (fun W => rnone_any x.g W)
  have HD : Hid (writeB nn ne x = (decide (1 ≤ x.id) && decide (x.id ≤ nn) && zeroE x.g && ((x.gone && emptyN x.n) || (!x.gone && nodeB x.n)))) := by simp only [Hid]; unfold writeB; rw [he]; rfl
  have HEM : Hid (emptyN x.n = (decide (x.n.ls.length = 0) && decide (x.n.ps.length = 0))) := rfl
  generalize nodeB x.n = eb at *
  generalize zeroE x.g = zb at *
  generalize writeB nn ne x = r at *
  generalize emptyN x.n = em at *
  clear hn ho
  obtain ⟨e, id, gone, ⟨ls, ps⟩, ⟨ga, gb, gt, gw⟩⟩ := x
  obtain ⟨A, lc, B, pc⟩ := s
  simp only at he hl1 hl2
  subst he
  unfold WB at HX HX0
  simp only at HX HX0 hal
  have hcase : (ls.length = 0 ∧ (((ls.length : Nat) : Int) == 0) = true) ∨ (ls.length ≠ 0 ∧ (((ls.length : Nat) : Int) == 0) = false) := by
    by_cases h : ls.length = 0
    · exact .inl ⟨h, by simp [h]⟩
    · exact .inr ⟨h, by simpa using h⟩
  have hcase2 : (ps.length = 0 ∧ (((ps.length : Nat) : Int) == 0) = true) ∨ (ps.length ≠ 0 ∧ (((ps.length : Nat) : Int) == 0) = false) := by
    by_cases h : ps.length = 0
    · exact .inl ⟨h, by simp [h]⟩
    · exact .inr ⟨h, by simpa using h⟩
  have HLA := Lib.hid hcase
  have HLB := Lib.hid hcase2
  clear hcase hcase2
  simp only at HE HZ HEM HD
  unfold wrc at HX HX0 hal
  simp only at HX HX0 hal
  obtain ⟨V, hV⟩ : ∃ V, V = w.alloc (.cells #[.bool false, .int .i64 id, .bool gone, .slice A ls.length lc, .slice B ps.length pc, .int .i64 ga, .int .i64 gb, .string gt, .float .f64 gw] 45) := ⟨_, rfl⟩
  rw [← hV] at HX HX0 hal
  go_enter Try.func42, Try.ntmps42
  go_upto_region 1 with fail
  rw [← hV]
  clear hV
  obtain ⟨k0, k1, k2, k3, k4, k5, k6, k7, k8⟩ := HX0.out
  go_cut [7] from 8 to 19 (fun v wx => v = .bool em ∧ V = wx)
  case first =>
    rcases HLA.out with ⟨h1, h2⟩ | ⟨h1, h2⟩ <;> rcases HLB.out with ⟨h3, h4⟩ | ⟨h3, h4⟩
    all_goals
      have HEQ : Hid (em = (decide (ls.length = 0) && decide (ps.length = 0))) := HEM.out
      have HV2 := Lib.hid (show (decide (ls.length = 0) && decide (ps.length = 0)) = (((ls.length : Nat) : Int) == 0 && ((ps.length : Nat) : Int) == 0) by rw [h2, h4]; simp [h1, h3])
      clear h1 h3
      go_wp2
      go_meet
      exact ⟨by rw [HEQ.out, HV2.out, h2, h4]; first | rfl | simp, rfl⟩
  case rest =>
    obtain ⟨rfl, rfl⟩ := hcut
    clear HEM HLA HLB
    by_cases h1 : 1 ≤ id
    case neg =>
      have HR := Lib.hid (show r = false by rw [HD.out, decide_eq_false h1]; rfl)
      go_wp2
      go_ret
      exact ⟨ret_b HR.out.symm, hal.out⟩
    by_cases h2 : id ≤ nn
    case neg =>
      have HR := Lib.hid (show r = false by rw [HD.out, decide_eq_false h2]; simp)
      go_wp2
      go_ret
      exact ⟨ret_b HR.out.symm, hal.out⟩
    have HQ := Lib.hid (show r = (zb && ((gone && em) || (!gone && eb))) by rw [HD.out, decide_eq_true h1, decide_eq_true h2]; simp)
    cases zb with
    | false =>
      have HR := Lib.hid (show r = false by rw [HQ.out]; simp)
      go_wp2_with (first
        | (go_at_call 69; (with_reducible refine (HZ.out _).mono ?_); rintro e w1 ⟨rfl, hb⟩; have B1 := Lib.hid hb; obtain ⟨k0, k1, k2, k3, k4, k5, k6, k7, k8⟩ := HX.out _ B1.out; clear hb))
      go_ret
      exact ⟨ret_b HR.out.symm, bnext hal.out B1.out⟩
    | true =>
      cases gone with
      | true =>
        have HR := Lib.hid (show r = em by rw [HQ.out]; simp)
        cases em
        all_goals
          go_wp2_with (first
            | (go_at_call 69; (with_reducible refine (HZ.out _).mono ?_); rintro e w1 ⟨rfl, hb⟩; have B1 := Lib.hid hb; obtain ⟨k0, k1, k2, k3, k4, k5, k6, k7, k8⟩ := HX.out _ B1.out; clear hb))
          go_ret
          exact ⟨ret_b HR.out.symm, bnext hal.out B1.out⟩
      | false =>
        have HR := Lib.hid (show r = eb by rw [HQ.out]; simp)
        go_wp2_with (first
          | (go_at_call 70; (with_reducible refine (HE.out _ (bnext hal.out B1.out)).mono ?_); rintro e w2 ⟨rfl, hb⟩; have B2 := Lib.hid (bnext B1.out hb); clear hb)
          | (go_at_call 69; (with_reducible refine (HZ.out _).mono ?_); rintro e w1 ⟨rfl, hb⟩; have B1 := Lib.hid hb; obtain ⟨k0, k1, k2, k3, k4, k5, k6, k7, k8⟩ := HX.out _ B1.out; clear hb))
        go_ret
        exact ⟨ret_b HR.out.symm, bnext hal.out B2.out⟩
theorem rwrite_any (nn ne : Int) (x : Wr) (s : Ns) (w : World) (ht : x.g.t.size ≤ maxLen) (hn : NdAt w x.n s) (ho : NdOk x.n) : Calls Try.prog 42 #[.int .i64 nn, .int .i64 ne, wrv x s] w fun r w' => r = .returned (.bool (writeB nn ne x)) ∧ Below w.heap.size w w' := by
  cases he : x.e with
  | true => exact rwrite_edge nn ne x s w he ht ho.l1 ho.l2
  | false => exact rwrite_node nn ne x s w he hn ho
end Go.Proofs.Ytdhpphbgobakhaa
