/- Proved: ligaturelaw5.RedoOfNothing returns true for every int and slice of bytes, and leaves its arguments as they were. No condition. -/
import Derived.Test.YtembonenaoineaaRows
import Derived.Test.YtembonenaoineaaGk
import Derived.WalkKit
import Derived.ProofKit
import Derived.OpenShut
import Derived.ShutString
import Derived.ChangeOld
import Derived.Below
namespace Go.Proofs.Ytembonenaoineaa.redoOfNothing
set_option maxRecDepth 100000
open Go.ChangeShapes Go.WideShapes Go.ChangeAt Go.RowKit
open Go.ChangeMaps (open_string shut_string)
set_option linter.unusedVariables false
theorem own : ownKnob Try.prog.godebug = none := by kernel_rfl
theorem laidOut : laidOutB Try.prog = true := by kernel_rfl

set_option maxHeartbeats 8000000 in
set_option maxRecDepth 100000 in
theorem walk (a0 : Int) (a1 : Sl UInt8) (w : World) (w0 : (Lit.int .i64 a0).wf = true) (w1 : SlB w a1) :
    Calls Try.prog 6 #[.int .i64 a0, slv a1] w fun e w' => e = .returned (.bool true) ∧ Below w.heap.size w w' := by
  obtain ⟨A, p, c⟩ := a1
  unfold slv
  simp only
  clear w1 w0
  by_cases hbad : a0 < 0 ∨ 20 < a0 ∨ 200 < p.length
  · rcases (show a0 < 0 ∨ (0 ≤ a0 ∧ 20 < a0) ∨ (0 ≤ a0 ∧ a0 ≤ 20 ∧ 200 < p.length) by omega) with q | ⟨q, q'⟩ | ⟨q, q', q''⟩
    all_goals (
      clear hbad
      go_enter Try.func6, Try.ntmps6
      go_wp2
      go_ret
      exact ⟨rfl, Below.refl _ _⟩)
  · obtain ⟨n, rfl⟩ : ∃ n : Nat, a0 = n := ⟨a0.toNat, by omega⟩
    have hn20 : n ≤ 20 := by omega
    have hp200 : p.length ≤ 200 := by omega
    clear hbad
    have HM : Hid (many (n : Nat) = n) := by simp only [Hid]; unfold many; omega
    go_enter Try.func6, Try.ntmps6
    go_wp2_with fail
    refine (open_nil _).mono ?_
    rintro e w' ⟨rfl, rfl⟩
    go_wp2_with fail
    refine (new_any (n : Nat) w).mono ?_
    rintro e w1 ⟨a, rfl, hp1, hb1⟩
    have HP1 := Lib.hid hp1
    have HB1 := Lib.hid hb1
    have HNL := Lib.hid ((nwS_len (n : Nat)).trans HM.out)
    clear hp1 hb1
    by_cases h4 : 4 ≤ n
    · have HR := Lib.hid (rst_new n h4 (by omega))
      have hd4 : decide ((4 : Int) ≤ (n : Int)) = true := by simp; omega
      go_wp2_with fail
      refine (open_rst HP1.out HR.out.rest (by simp)).mono ?_
      rintro e w2 ⟨hb2, c2, v, rfl, hl2, hc2, hrs2⟩
      obtain ⟨A2, cc, rfl, _, _, _⟩ := hrs2.open
      have HP2 := Lib.hid (HP1.out.below hb2)
      have HB2 := Lib.hid (HB1.out.trans (hb2.mono HB1.out.size))
      have HW := Lib.hid (waiting_any HP2.out)
      change Hid (Calls _ _ _ _ fun e w' => e = .returned (.int .i64 0) ∧ _) at HW
      clear hb2 hl2 hc2 hrs2
      go_wp2_with fail
      refine HW.out.mono ?_
      rintro e w' ⟨rfl, rfl⟩
      go_wp2_with fail
      refine (append_nil' _ _).mono ?_
      rintro e w' ⟨rfl, rfl⟩
      go_wp2_with fail
      refine (reset_nil _ _).mono ?_
      rintro e w' ⟨rfl, rfl⟩
      go_wp2_with fail
      refine (llen_nil _).mono ?_
      rintro e w' ⟨rfl, rfl⟩
      go_wp2_with fail
      refine (room_nil _).mono ?_
      rintro e w' ⟨rfl, rfl⟩
      go_wp2_with fail
      refine (known5_any _).mono ?_
      rintro e w3 ⟨rfl, hb3⟩
      have HB3 := Lib.hid (HB2.out.trans (hb3.mono HB2.out.size))
      clear hb3
      go_wp2
      go_ret
      exact ⟨rfl, HB3.out⟩
    · have hd4 : decide ((4 : Int) ≤ (n : Int)) = false := by simp; omega
      go_wp2_with fail
      refine (open_small HP1.out (by rw [HNL.out]; omega)).mono ?_
      rintro e w' ⟨rfl, rfl⟩
      have HW := Lib.hid (waiting_any HP1.out)
      change Hid (Calls _ _ _ _ fun e w' => e = .returned (.int .i64 0) ∧ _) at HW
      go_wp2_with fail
      refine HW.out.mono ?_
      rintro e w' ⟨rfl, rfl⟩
      go_wp2_with fail
      refine (append_nil' _ _).mono ?_
      rintro e w' ⟨rfl, rfl⟩
      go_wp2_with fail
      refine (reset_nil _ _).mono ?_
      rintro e w' ⟨rfl, rfl⟩
      go_wp2_with fail
      refine (llen_nil _).mono ?_
      rintro e w' ⟨rfl, rfl⟩
      go_wp2_with fail
      refine (room_nil _).mono ?_
      rintro e w' ⟨rfl, rfl⟩
      go_wp2_with fail
      refine (known5_any _).mono ?_
      rintro e w3 ⟨rfl, hb3⟩
      have HB3 := Lib.hid (HB1.out.trans (hb3.mono HB1.out.size))
      clear hb3
      go_wp2
      go_ret
      exact ⟨rfl, HB3.out⟩

set_option maxRecDepth 100000 in
theorem lifted (os : Os) (started : os.Started) (H : Type) (enc : TypeId × Value → H) :
    ReturnsInHanded {} Try.checked os 6 .any (Rows.redoOfNothingSpec.pre6 enc Try.prog Try.f6 Rows.redoOfNothingRow.domain false) (Rows.redoOfNothingSpec.post enc Try.prog Try.f6 false true false false) := by
  refine returnsInHanded_of_change (C := Try.checked) own started (by kernel_rfl) Try.func6
    (ChangeSpec.witness6 (enc := enc) (C := Try.checked) false ⟨#[], #[.int .i64 0, .slice none 0 0], []⟩ 8 (by kernel_rfl) (by kernel_rfl) (by kernel_rfl) (by kernel_rfl)) ?_
  intro W base args ds gs before hval0 hW hcnd _
  have hval : ∀ (j : Nat) t v, Try.f6.params[j]? = some t → args[j]? = some v → Value.okWide Try.prog W .any base t v := hval0
  have hW' := hW
  obtain ⟨p, q, hA0, hV, rfl, hfz, hnd⟩ := hW
  have hA : DataW.TrodAll enc Try.prog W 0 (fun _ => true) true Try.f6.params.toList args.toList ds p := hA0
  rw [Try.params6] at hA hval
  obtain ⟨v0, vs0, d0, ds0, p0, q0, hargs, rfl, rfl, h0, r0⟩ := trodAll_cons hA
  obtain ⟨v1, vs1, d1, ds1, p1, q1, rfl, rfl, rfl, h1, r1⟩ := trodAll_cons r0
  obtain ⟨rfl, rfl, rfl⟩ := trodAll_nil r1
  obtain rfl : args = #[v0, v1] := by cases args; simp_all
  obtain ⟨rfl, rfl⟩ := trodVars_none hV
  obtain ⟨a0, rfl, rfl, rfl, w0⟩ := open_int Try.underlying3 (hval 0 3 v0 rfl rfl) h0
  have k1 := h1
  have lt1 : ∀ x ∈ p1, x.block < W.heap.size := by obtain ⟨m, hm⟩ := k1; exact DataW.trod_lt m _ _ _ hm
  obtain ⟨a1, rfl, w1⟩ := open_bytes (hval 1 36 v1 rfl rfl) h1
  clear hA0 hval0
  refine (walk a0 a1 W w0 w1).mono fun e W' ⟨he, bel⟩ => ?_
  subst he
  exact ⟨_, rfl, _, _, _, [], _, [], hW', trodAll_mk1 (shut_bool Try.underlying4 _), (trodAll_cons_mk (shut_int Try.underlying3 w0) (trodAll_cons_mk (Below.trod laidOut (by kernel_rfl) (of_decide_eq_true (by kernel_rfl)) k1 bel lt1) trodAll_mk0)), rfl, bel.frame _, fun h => by cases h⟩

theorem over : Rows.redoOfNothingRow.holds Try.pinned (OpenSpec.ofChange Rows.redoOfNothingSpec) :=
  OpenClaim.holds_of_wide 6 Try.f6 rfl rfl rfl rfl rfl rfl rfl ⟨rfl, rfl, rfl, rfl, rfl⟩ rfl rfl rfl rfl rfl (by kernel_rfl) Try.func6 (by kernel_rfl)
    (of_decide_eq_true (by kernel_rfl)) (by unfold Func.isWrapper; first | (rw [if_pos (by decide +kernel)]; kernel_rfl) | (rw [if_neg (by decide +kernel)]; exact ⟨rfl, rfl⟩))
    (fun os started H enc _ => lifted os started H enc)

theorem proved : Rows.RedoOfNothingSaid := over
#print axioms proved
end Go.Proofs.Ytembonenaoineaa.redoOfNothing
