/- Proved: ligaturelaw6.ClockAborts returns true for every two ints. No condition. -/
import Derived.Test.YtpeecgieohbolaaRows
import Derived.Test.YtpeecgieohbolaaKi
import Derived.Test.YtpeecgieohbolaaKj
import Derived.WalkKit
import Derived.ProofKit
import Derived.OpenShut
import Derived.ShutString
import Derived.ChangeOld
import Derived.Below
namespace Go.Proofs.Ytpeecgieohbolaa.clockAborts
set_option maxRecDepth 100000
open Go.ChangeShapes Go.WideShapes Go.ChangeAt Go.RowKit
open Go.ChangeMaps (open_string shut_string)
set_option linter.unusedVariables false
theorem own : ownKnob Try.prog.godebug = none := by kernel_rfl
theorem laidOut : laidOutB Try.prog = true := by kernel_rfl

set_option maxHeartbeats 8000000 in
theorem walk (a0 : Int) (a1 : Int) (w : World) (w0 : (Lit.int .i64 a0).wf = true) (w1 : (Lit.int .i64 a1).wf = true) :
    Calls Try.prog 8 #[.int .i64 a0, .int .i64 a1] w fun e w' => e = .returned (.bool true) ∧ Below w.heap.size w w' := by
  by_cases hbad : a0 < 0 ∨ 2 < a0 ∨ a1 < 0 ∨ 3 < a1
  · rcases (show a0 < 0 ∨ (0 ≤ a0 ∧ 2 < a0) ∨ (0 ≤ a0 ∧ a0 ≤ 2 ∧ a1 < 0) ∨ (0 ≤ a0 ∧ a0 ≤ 2 ∧ 0 ≤ a1 ∧ 3 < a1) by omega) with q | ⟨q, q'⟩ | ⟨q, q', q''⟩ | ⟨q, q', q'', q3⟩
    all_goals (
      clear hbad
      go_enter Try.func8, Try.ntmps8
      go_wp2
      go_ret
      exact ⟨rfl, Below.refl _ _⟩)
  · obtain ⟨n, rfl⟩ : ∃ n : Nat, a0 = n := ⟨a0.toNat, by omega⟩
    obtain ⟨m, rfl⟩ : ∃ m : Nat, a1 = m := ⟨a1.toNat, by omega⟩
    have hn2 : n ≤ 2 := by omega
    have hm3 : m ≤ 3 := by omega
    clear hbad
    have HN := Lib.hid (sys_new (Below.refl w.heap.size w))
    have DK := Lib.hid known_any
    have HG := Lib.hid (fun k (hk : k ≤ 2) W (a : Nat) (h : Sys w W a (bg k)) => sys_begin h (by rw [(ag_first k (by omega)).2.2.2.1]; omega))
    obtain ⟨e1, e2, e3, e4, e5⟩ := ag_first n (by omega)
    have HB := Lib.hid (fun W (a : Nat) (h : Sys w W a (bg n)) => sys_begin h (by omega))
    rw [e1, e2] at HB
    have HA := Lib.hid (fun W (a : Nat) (h : Sys w W a (bg n).beg) => sys_abort h ((n : Int) + 1) (by omega))
    rw [e3] at HA
    clear e1 e2 e3 e4 e5
    go_enter Try.func8, Try.ntmps8
    go_wp2_with (go_at_call 9; (with_reducible refine HN.out.mono ?_); rintro e w1 ⟨a, rfl, h1⟩; have H1 := Lib.hid h1; clear h1)
    clear HN
    go_loopw [6] (fun i wr => ∃ k : Nat, k ≤ n ∧ i = .int .i64 (k : Nat) ∧ Hid (Sys w wr a (bg k))) (fun i _ => n - (intOf i).toNat)
    case atStart => exact ⟨0, Nat.zero_le _, rfl, H1.out⟩
    case round =>
      obtain ⟨k, hk, rfl, HS⟩ := hrel
      clear H1
      by_cases hlt : k < n
      · go_wp2_with (go_at_call 24; (with_reducible refine (HG.out k (by omega) _ _ HS.out).mono ?_); rintro e w2 ⟨rfl, h2⟩; have H2 : Hid (Sys w w2 a (bg (k + 1))) := h2; clear h2)
        exact ⟨⟨k + 1, by omega, by go_num, H2.out⟩, by simp [intOf]; omega⟩
      · obtain rfl : k = n := by omega
        go_wp2_with (first
          | (go_at_call 24; (with_reducible refine (HB.out _ _ HS.out).mono ?_); rintro e w2 ⟨rfl, h2⟩; have H2 := Lib.hid h2; clear h2)
          | (go_at_call 27; (with_reducible refine (HA.out _ _ H2.out).mono ?_); rintro e w3 ⟨rfl, h3⟩; have H3 : Hid (Sys w w3 a (ag k 0)) := h3; clear h3))
        go_loopw [10] (fun i wr => ∃ j : Nat, j ≤ m ∧ i = .int .i64 (j : Nat) ∧ Hid (Sys w wr a (ag k j))) (fun i _ => m - (intOf i).toNat)
        case atStart => exact ⟨0, Nat.zero_le _, rfl, H3.out⟩
        case round =>
          obtain ⟨j, hj, rfl, HS2⟩ := hrel
          clear H2 H3 HS HG HB HA
          have after : True := trivial
          by_cases hgo : j < m ∧ j + k < 4
          · have hg := Lib.hid (sys_begin HS2.out (by have := ag_len k (by omega) j (by omega); omega))
            obtain ⟨hgo1, hgo2⟩ := hgo
            have d2 : (j : Int) + (k : Int) < 4 := by omega
            go_wp2_with (go_at_call 24; (with_reducible refine hg.out.mono ?_); rintro e w2 ⟨rfl, h2⟩; have H2 : Hid (Sys w w2 a (ag k (j + 1))) := h2; clear h2)
            exact ⟨⟨j + 1, by omega, by go_num, H2.out⟩, by simp [intOf]; omega⟩
          · have hend : ¬ j < m ∨ (j < m ∧ ¬ j + k < 4) := by omega
            have HE := Lib.hid (ag_end k (by omega) j (by omega))
            have HZ := Lib.hid (ag_sees k (by omega) j (by omega))
            have D1 := Lib.hid (fun W (h : Sys w W a (ag k j)) => sys_aborted h ((k : Int) + 1))
            have D2 := Lib.hid (fun W (h : Sys w W a (ag k j)) => sys_live h ((k : Int) + 1))
            have D3 := Lib.hid (fun W (h : Sys w W a (ag k j)) => sys_settled h ((k : Int) + 1))
            rw [HE.out.1] at D1
            rw [HE.out.2.1] at D2
            rw [HE.out.2.2] at D3
            clear hgo HE after
            have D4 := Lib.hid (fun W (h : Sys w W a (ag k j)) (u : Nat) (hu : u < 8) (hne : u ≠ k + 1) => sys_sees h (u : Int) ((k : Int) + 1))
            have D5 := Lib.hid (fun W (h : Sys w W a (ag k j)) (u : Nat) (hu : u < 8) (hne : u ≠ k + 1) => sys_clashes h (u : Int) ((k : Int) + 1))
            rcases hend with h1 | ⟨h1, h2⟩
            case' inr => have d2 : ¬ (j : Int) + (k : Int) < 4 := by omega
            all_goals (
              go_wp2
              go_loopw [11] (fun i wr => ∃ u : Nat, 1 ≤ u ∧ u ≤ k + 1 + m + 1 ∧ i = .int .i64 (u : Nat) ∧ Hid (Sys w wr a (ag k j))) (fun i _ => 10 - (intOf i).toNat)
              case atStart => exact ⟨1, by omega, by omega, rfl, HS2.out⟩
              case round =>
                obtain ⟨u, hu1, hu2, rfl, HS3⟩ := hrel
                by_cases hlt : u ≤ k + 1 + m
                · have hle : (u : Int) ≤ (k : Int) + 1 + (m : Int) := by omega
                  by_cases hue : u = k + 1
                  · subst hue
                    go_wp2
                    exact ⟨⟨k + 1 + 1, by omega, by omega, by go_num, HS3.out⟩, by simp [intOf]; omega⟩
                  · have hne : ((u : Int) == (k : Int) + 1) = false := by rw [beq_eq_false_iff_ne]; omega
                    have hz := HZ.out u (by omega) hue
                    have E1 := D4.out _ HS3.out u (by omega) hue
                    rw [hz.1] at E1
                    have F1 := Lib.hid E1
                    have F2 := Lib.hid (fun W (h : Sys w W a (ag k j)) => D5.out W h u (by omega) hue)
                    rw [hz.2] at F2
                    clear hz E1
                    go_wp2_with (first
                      | (go_at_call 19; (with_reducible refine F1.out.mono ?_); rintro e w4 ⟨rfl, h4⟩; have H4 := Lib.hid (HS3.out.below h4); clear h4)
                      | (go_at_call 21; (with_reducible refine (F2.out _ H4.out).mono ?_); rintro e w5 ⟨rfl, h5⟩; have H5 := Lib.hid (H4.out.below h5); clear h5))
                    exact ⟨⟨u + 1, by omega, by omega, by go_num, H5.out⟩, by simp [intOf]; omega⟩
                · obtain rfl : u = k + 1 + m + 1 := by omega
                  clear D4 D5 HZ
                  go_wp2_with (first
                    | (go_at_call 15; (with_reducible refine (D1.out _ HS3.out).mono ?_); rintro e w4 ⟨rfl, h4⟩; have H4 := Lib.hid (HS3.out.below h4); clear h4)
                    | (go_at_call 13; (with_reducible refine (D2.out _ H4.out).mono ?_); rintro e w5 ⟨rfl, h5⟩; have H5 := Lib.hid (H4.out.below h5); clear h5)
                    | (go_at_call 17; (with_reducible refine (D3.out _ H5.out).mono ?_); rintro e w6 ⟨rfl, h6⟩; have H6 := Lib.hid (H5.out.below h6); clear h6)
                    | (go_at_call 23; (with_reducible refine (DK.out _).mono ?_); rintro e w8 ⟨rfl, hb8⟩; have H8 := Lib.hid (H6.out.below hb8); clear hb8))
                  go_ret
                  exact ⟨rfl, H8.out.all⟩)

set_option maxRecDepth 100000 in
theorem lifted (os : Os) (started : os.Started) (H : Type) (enc : TypeId × Value → H) :
    ReturnsInHanded {} Try.checked os 8 .any (Rows.clockAbortsSpec.pre6 enc Try.prog Try.f8 Rows.clockAbortsRow.domain false) (Rows.clockAbortsSpec.post enc Try.prog Try.f8 false true false false) := by
  refine returnsInHanded_of_change (C := Try.checked) own started (by kernel_rfl) Try.func8
    (ChangeSpec.witness6 (enc := enc) (C := Try.checked) false ⟨#[], #[.int .i64 0, .int .i64 0], []⟩ 8 (by kernel_rfl) (by kernel_rfl) (by kernel_rfl) (by kernel_rfl)) ?_
  intro W base args ds gs before hval0 hW hcnd _
  have hval : ∀ (j : Nat) t v, Try.f8.params[j]? = some t → args[j]? = some v → Value.okWide Try.prog W .any base t v := hval0
  have hW' := hW
  obtain ⟨p, q, hA0, hV, rfl, hfz, hnd⟩ := hW
  have hA : DataW.TrodAll enc Try.prog W 0 (fun _ => true) true Try.f8.params.toList args.toList ds p := hA0
  rw [Try.params8] at hA hval
  obtain ⟨v0, vs0, d0, ds0, p0, q0, hargs, rfl, rfl, h0, r0⟩ := trodAll_cons hA
  obtain ⟨v1, vs1, d1, ds1, p1, q1, rfl, rfl, rfl, h1, r1⟩ := trodAll_cons r0
  obtain ⟨rfl, rfl, rfl⟩ := trodAll_nil r1
  obtain rfl : args = #[v0, v1] := by cases args; simp_all
  obtain ⟨rfl, rfl⟩ := trodVars_none hV
  obtain ⟨a0, rfl, rfl, rfl, w0⟩ := open_int Try.underlying3 (hval 0 3 v0 rfl rfl) h0
  obtain ⟨a1, rfl, rfl, rfl, w1⟩ := open_int Try.underlying3 (hval 1 3 v1 rfl rfl) h1
  clear hA0 hval0
  refine (walk a0 a1 W w0 w1).mono fun e W' ⟨he, bel⟩ => ?_
  subst he
  exact ⟨_, rfl, _, _, _, [], _, [], hW', trodAll_mk1 (shut_bool Try.underlying4 _), (trodAll_cons_mk (shut_int Try.underlying3 w0) (trodAll_cons_mk (shut_int Try.underlying3 w1) trodAll_mk0)), rfl, bel.frame _, fun h => by cases h⟩

theorem over : Rows.clockAbortsRow.holds Try.pinned (OpenSpec.ofChange Rows.clockAbortsSpec) :=
  OpenClaim.holds_of_wide 8 Try.f8 rfl rfl rfl rfl rfl rfl rfl ⟨rfl, rfl, rfl, rfl, rfl⟩ rfl rfl rfl rfl rfl (by kernel_rfl) Try.func8 (by kernel_rfl)
    (of_decide_eq_true (by kernel_rfl)) (by unfold Func.isWrapper; first | (rw [if_pos (by decide +kernel)]; kernel_rfl) | (rw [if_neg (by decide +kernel)]; exact ⟨rfl, rfl⟩))
    (fun os started H enc _ => lifted os started H enc)

theorem proved : Rows.ClockAbortsSaid := over
#print axioms proved
end Go.Proofs.Ytpeecgieohbolaa.clockAborts
