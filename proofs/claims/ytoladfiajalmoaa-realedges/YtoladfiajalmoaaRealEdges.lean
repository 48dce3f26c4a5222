/- Proved: ligaturelaw1.RealEdges returns true for every uint64 a, and leaves its argument as it was. No condition. -/
import Derived.Test.YtoladfiajalmoaaRows
import Derived.Test.YtoladfiajalmoaaWalk
import Derived.Test.YtoladfiajalmoaaSum
import Derived.Test.YtoladfiajalmoaaEdge
import Derived.WalkKit
import Derived.ProofKit
import Derived.OpenShut
import Derived.ShutString
namespace Go.Proofs.Ytoladfiajalmoaa.realEdges
open Fl (S IR nanB normN keyN NaNw cmpK unkN ofB)
open Go.ChangeShapes Go.WideShapes Go.ChangeAt Go.RowKit
open Go.ChangeMaps (open_string shut_string)
set_option linter.unusedVariables false      -- a walk need not use every 'w<i>' (that an integer argument fits its kind)

theorem own : ownKnob Try.prog.godebug = none := by kernel_rfl

/-! ### STEP 1: THE WALK: the Go text returns true. 'Grown w w'': the world has at most new blocks (Derived/RowKit3.lean). Part the cases AHEAD of 'go_enter' where a test parts the walk; take each callee by a contract of your own. -/
theorem walk (a0 : Int) (w0 : (Lit.int .u64 a0).wf = true) (w : World) :
    Calls Try.prog 5 #[.int .u64 a0] w fun e w' => e = .returned (.bool true) ∧ Grown w w' := by
  obtain ⟨n, rfl, hn⟩ := u64_nat w0
  have hIR : IR < 2 * S := by decide
  have hN1 : 9221120237041090561 < 2 * S := by decide
  cases h1 : nanB n
  · obtain ⟨b1, b2⟩ := Fl.keyN_le n hn h1
    have hfi := Fl.flip_lt IR hIR
    have Hfi := Lib.hid (Fl.neg_flip IR hIR)
    have hc1 : decide (cmpK (keyN n) (keyN IR) ≤ 0) = true := by
      rw [Fl.kIR]; unfold cmpK; simp; split <;> (try split) <;> omega
    have hc2 : decide (cmpK (keyN (Fl.flip IR)) (keyN n) ≤ 0) = true := by
      rw [Fl.kMI]; unfold cmpK; simp; split <;> (try split) <;> omega
    have hc3 : (cmpK (keyN n) (keyN 9221120237041090561) == -1) = true := by
      rw [Fl.kN1, Fl.cmpK_lo (by have : IR < NaNw := by decide
                                 omega)]; rfl
    clear b1 b2
    have Hk := Lib.hid Fl.kS0
    unfold nanB at h1
    go_enter Try.func5, Try.ntmps5
    go_wp2_with fail
    refine (inf_any _).mono ?_
    rintro e w' ⟨rfl, rfl⟩
    go_wp2_with fail
    refine (copysign_c _).mono ?_
    rintro e w' ⟨rfl, rfl⟩
    go_wp2_with fail
    refine (cmp_any _ _ hn hIR _).mono ?_
    rintro e w' ⟨rfl, rfl⟩
    go_wp2_with fail
    rw [Hfi.out]
    refine (cmp_any _ _ hfi hn _).mono ?_
    rintro e w' ⟨rfl, rfl⟩
    go_wp2_with fail
    refine (mnan_any _).mono ?_
    rintro e w' ⟨rfl, rfl⟩
    go_wp2_with fail
    refine (cmp_any _ _ hn hN1 _).mono ?_
    rintro e w' ⟨rfl, rfl⟩
    go_wp2_with fail
    refine (cmp_any _ _ (by decide) (by decide) _).mono ?_
    rintro e w' ⟨rfl, rfl⟩
    rw [Hk.out]
    go_wp2_with fail
    refine (weight_any _ _).mono ?_
    rintro e w' ⟨rfl, rfl⟩
    rw [Fl.gS]
    go_wp2_with fail
    refine (weight_any _ _).mono ?_
    rintro e w' ⟨rfl, rfl⟩
    have hgq : Fl.geB n = (FloatKind.f64.format.order n 0 == some Ordering.gt || FloatKind.f64.format.order n 0 == some Ordering.eq) := rfl
    go_wp2_with fail
    clear hgq
    rw [Hfi.out]
    refine (sum_any (some ⟨w.heap.size, 0, none⟩) [IR, Fl.flip IR] 2 _ (frow_new w 23 _ _ rfl) (by simp)).mono ?_
    rintro e w' ⟨rfl, m, rfl⟩
    rw [Fl.sInf]
    go_wp2_with fail
    refine (nan_any _).mono ?_
    rintro e w' ⟨rfl, rfl⟩
    go_wp2_with fail
    refine (same_any _ _ _).mono ?_
    rintro e w' ⟨rfl, rfl⟩
    rw [show sameB NaNw NaNw = true from rfl]
    go_wp2_with fail
    refine (sum_any (some ⟨w.heap.size + 1, 0, none⟩) [S] 1 _ (frow_at _ 23 _ (by simp) _ _ rfl) (by simp)).mono ?_
    rintro e w' ⟨rfl, m2, rfl⟩
    rw [Fl.sZero]
    go_wp2_with fail
    refine (same_any _ _ _).mono ?_
    rintro e w' ⟨rfl, rfl⟩
    rw [show sameB 0 0 = true from rfl]
    go_wp2_with fail
    refine (known_any _).mono ?_
    rintro e w' ⟨rfl, rfl⟩
    go_wp2_with fail
    go_ret
    exact ⟨rfl, grown_drewN ((grown_drewN ((Grown.refl _).alloc _ _) m).alloc _ _) m2⟩
  · have Hk := Lib.hid (Fl.keyN_nan n h1)
    have Hw := Lib.hid (Fl.geB_nan n h1)
    have Hs := Lib.hid (Fl.sum_one_nan 4607182418800017408 n h1)
    have hc1 : (cmpK (keyN n) (keyN IR) == 1) = true := by
      rw [Hk.out, Fl.kIR, Fl.cmpK_hi (by decide)]; rfl
    have hc2 : (cmpK (keyN n) (keyN 9221120237041090561) == 0) = true := by
      rw [Hk.out, Fl.kN1, Fl.cmpK_self]; rfl
    unfold nanB at h1
    go_enter Try.func5, Try.ntmps5
    go_wp2_with fail
    refine (inf_any _).mono ?_
    rintro e w' ⟨rfl, rfl⟩
    go_wp2_with fail
    refine (cmp_any _ _ hn hIR _).mono ?_
    rintro e w' ⟨rfl, rfl⟩
    go_wp2_with fail
    refine (mnan_any _).mono ?_
    rintro e w' ⟨rfl, rfl⟩
    go_wp2_with fail
    refine (cmp_any _ _ hn hN1 _).mono ?_
    rintro e w' ⟨rfl, rfl⟩
    go_wp2_with fail
    refine (weight_any _ _).mono ?_
    rintro e w' ⟨rfl, rfl⟩
    rw [Hw.out]
    go_wp2_with fail
    refine (sum_any (some ⟨w.heap.size, 0, none⟩) [4607182418800017408, n] 2 _ (frow_new w 23 _ _ rfl) (by simp)).mono ?_
    rintro e w' ⟨rfl, m, rfl⟩
    rw [Hs.out]
    go_wp2_with fail
    refine (nan_any _).mono ?_
    rintro e w' ⟨rfl, rfl⟩
    go_wp2_with fail
    refine (same_any _ _ _).mono ?_
    rintro e w' ⟨rfl, rfl⟩
    rw [show sameB NaNw NaNw = true from rfl]
    go_wp2_with fail
    refine (known_any _).mono ?_
    rintro e w' ⟨rfl, rfl⟩
    go_wp2_with fail
    go_ret
    exact ⟨rfl, grown_drewN ((Grown.refl _).alloc _ _) m⟩

/-! ### THE ROW's STEP: WRITTEN OUT: LEAVE IT -/
set_option maxRecDepth 100000 in
theorem lifted (os : Os) (started : os.Started) (H : Type) (enc : TypeId × Value → H) :
    ReturnsInHanded {} Try.checked os 5 .any (Rows.realEdgesSpec.pre6 enc Try.prog Try.f5 Rows.realEdgesRow.domain false) (Rows.realEdgesSpec.post enc Try.prog Try.f5 false true false false) := by
  refine returnsInHanded_of_change (C := Try.checked) own started (by kernel_rfl) Try.func5
    (ChangeSpec.witness6 (enc := enc) (C := Try.checked) false ⟨#[], #[.int .u64 0], []⟩ 8 (by kernel_rfl) (by kernel_rfl) (by kernel_rfl) (by kernel_rfl)) ?_
  intro W base args ds gs before hval0 hW hcnd _
  have hval : ∀ (j : Nat) t v, Try.f5.params[j]? = some t → args[j]? = some v → Value.okWide Try.prog W .any base t v := hval0
  have hW' := hW
  obtain ⟨p, q, hA0, hV, rfl, hfz, hnd⟩ := hW
  have hA : DataW.TrodAll enc Try.prog W 0 (fun _ => true) true Try.f5.params.toList args.toList ds p := hA0
  rw [Try.params5] at hA hval
  obtain ⟨v0, vs0, d0, ds0, p0, q0, hargs, rfl, rfl, h0, r0⟩ := trodAll_cons hA
  obtain ⟨rfl, rfl, rfl⟩ := trodAll_nil r0
  obtain rfl : args = #[v0] := by cases args; simp_all
  obtain ⟨rfl, rfl⟩ := trodVars_none hV
  obtain ⟨a0, rfl, rfl, rfl, w0⟩ := open_int Try.underlying22 (hval 0 22 v0 rfl rfl) h0
  clear hA0 hval0
  simp only [List.append_nil] at hW'
  refine (walk a0 w0 W).mono fun e W' ⟨he, hg⟩ => ?_
  subst he
  exact ⟨_, rfl, post_of_same (pa := []) (pv := []) hW' (fun _ _ _ => (trodAll_cons_mk (shut_bool Try.underlying4 _) trodAll_mk0)) (fun sp _ => (trodAll_cons_mk (shut_int Try.underlying22 w0) trodAll_mk0)) (fun _ _ => rfl) rfl
    (hg.frame _) hg.2.1 (ok_one (by kernel_rfl) rfl (okWide_bool_mk Try.underlying4 _))⟩

theorem over : Rows.realEdgesRow.holds Try.pinned (OpenSpec.ofChange Rows.realEdgesSpec) :=
  OpenClaim.holds_of_wide 5 Try.f5 rfl rfl rfl rfl rfl rfl rfl ⟨rfl, rfl, rfl, rfl, rfl⟩ rfl rfl rfl rfl rfl (by kernel_rfl) Try.func5 (by kernel_rfl)
    (of_decide_eq_true (by kernel_rfl)) (by unfold Func.isWrapper; first | (rw [if_pos (by decide +kernel)]; kernel_rfl) | (rw [if_neg (by decide +kernel)]; exact ⟨rfl, rfl⟩))
    (fun os started H enc _ => lifted os started H enc)

/-- ████ THE STATEMENT ████ -/
theorem proved : Rows.RealEdgesSaid :=
  over
#print axioms proved
end Go.Proofs.Ytoladfiajalmoaa.realEdges
