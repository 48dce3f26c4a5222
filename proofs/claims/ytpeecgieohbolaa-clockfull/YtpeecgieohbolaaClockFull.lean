/- Proved: ligaturelaw6.ClockFull returns true for every int and bool. No condition. -/
import Derived.Test.YtpeecgieohbolaaRows
import Derived.Test.YtpeecgieohbolaaKi
import Derived.Test.YtpeecgieohbolaaKj
import Derived.WalkKit
import Derived.ProofKit
import Derived.OpenShut
import Derived.ShutString
import Derived.ChangeOld
import Derived.Below
namespace Go.Proofs.Ytpeecgieohbolaa.clockFull
set_option maxRecDepth 100000
open Go.ChangeShapes Go.WideShapes Go.ChangeAt Go.RowKit
open Go.ChangeMaps (open_string shut_string)
set_option linter.unusedVariables false
theorem own : ownKnob Try.prog.godebug = none := by kernel_rfl
theorem laidOut : laidOutB Try.prog = true := by kernel_rfl

set_option maxHeartbeats 8000000 in
theorem walk (a0 : Int) (a1 : Bool) (w : World) (w0 : (Lit.int .i64 a0).wf = true) :
    Calls Try.prog 5 #[.int .i64 a0, .bool a1] w fun e w' => e = .returned (.bool true) ∧ Below w.heap.size w w' := by
  by_cases hbad : a0 < 0 ∨ 10 < a0
  · rcases (show a0 < 0 ∨ (0 ≤ a0 ∧ 10 < a0) by omega) with q | ⟨q, q'⟩
    all_goals (
      clear hbad
      go_enter Try.func5, Try.ntmps5
      go_wp2
      go_ret
      exact ⟨rfl, Below.refl _ _⟩)
  · obtain ⟨n, rfl⟩ : ∃ n : Nat, a0 = n := ⟨a0.toNat, by omega⟩
    have hn10 : n ≤ 10 := by omega
    clear hbad
    have HN := Lib.hid (sys_new (Below.refl w.heap.size w))
    have DK := Lib.hid known_any
    go_enter Try.func5, Try.ntmps5
    go_wp2_with (go_at_call 9; (with_reducible refine HN.out.mono ?_); rintro e w1 ⟨a, rfl, h1⟩; have H1 := Lib.hid h1; clear h1)
    clear HN
    go_loopw [6, 7, 8] (fun i _ _ wr => ∃ k : Nat, k ≤ n ∧ i = .int .i64 ((k : Int) + 1) ∧ Hid (Sys w wr a (bg k))) (fun i _ _ _ => n + 1 - (intOf i).toNat)
    case atStart => exact ⟨0, Nat.zero_le _, rfl, H1.out⟩
    case round =>
      obtain ⟨k, hk, rfl, HS⟩ := hrel
      clear H1
      have hk10 : k ≤ 10 := by omega
      by_cases hlt : k < n
      · have hc := sys_begin HS.out (by rw [bg_len k (by omega)]; omega)
        rw [bg_begT k (by omega), bg_begE k (by omega)] at hc
        by_cases h4 : k < 4
        · rw [if_pos h4, if_pos h4] at hc
          have HC := Lib.hid hc
          have d1 : decide ((k : Int) + 1 ≤ 4) = true := by rw [decide_eq_true_eq]; omega
          clear hc
          go_wp2_with (go_at_call 24; (with_reducible refine HC.out.mono ?_); rintro e w2 ⟨rfl, h2⟩; have H2 : Hid (Sys w w2 a (bg (k + 1))) := h2; clear h2)
          exact ⟨⟨k + 1, by omega, by go_num, H2.out⟩, by simp [intOf]; omega⟩
        · rw [if_neg h4, if_neg h4] at hc
          have HC := Lib.hid hc
          have d1 : decide ((k : Int) + 1 ≤ 4) = false := by rw [decide_eq_false_iff_not]; omega
          clear hc
          go_wp2_with (go_at_call 24; (with_reducible refine HC.out.mono ?_); rintro e w2 ⟨rfl, h2⟩; have H2 : Hid (Sys w w2 a (bg (k + 1))) := h2; clear h2)
          exact ⟨⟨k + 1, by omega, by go_num, H2.out⟩, by simp [intOf]; omega⟩
      · obtain rfl : k = n := by omega
        by_cases h0 : k = 0
        · subst h0
          have hc := sys_commit HS.out 1 (by decide) (by decide)
          rw [bg_e0] at hc
          have HC := Lib.hid hc
          clear hc
          go_wp2_with (first
            | (go_at_call 26; (with_reducible refine HC.out.mono ?_); rintro e w2 ⟨rfl, h2⟩; have H2 := Lib.hid h2; clear h2)
            | (go_at_call 23; (with_reducible refine (DK.out _).mono ?_); rintro e w8 ⟨rfl, hb8⟩; have H8 := Lib.hid (H2.out.below hb8); clear hb8))
          go_ret
          exact ⟨rfl, H8.out.all⟩
        · have hpos : 0 < k := by omega
          clear h0
          have e0 := bg_end k (by omega) hpos
          cases a1 with
          | true =>
            obtain ⟨e1, e2, e3, e4, e5, e6, e7⟩ := bg_com k (by omega) hpos
            have hc := Lib.hid (sys_commit HS.out 1 (by rw [bg_n k (by omega)]; omega) (by rw [bg_len k (by omega)]; omega))
            rw [e0] at hc
            have hb := Lib.hid (fun W (h : Sys w W a ((bg k).comS 1)) => sys_begin h (by rw [e7]; omega))
            rw [e1, e2] at hb
            obtain ⟨c, hcd⟩ : ∃ c, ((bg k).comS 1).beg = c := ⟨_, rfl⟩
            rw [hcd] at hb e3 e4 e5 e6
            have hc2 := Lib.hid (fun W (h : Sys w W a c) => sys_commit h 1 (by omega) (by omega))
            have ha2 := Lib.hid (fun W (h : Sys w W a c) => sys_abort h 1 (by omega))
            rw [e3, (no_com e3).1] at hc2
            rw [e3, (no_com e3).2] at ha2
            have hct := Lib.hid (fun W (h : Sys w W a c) => sys_count h)
            rw [e4] at hct
            clear e0 e1 e2 e3 e4 e5 e6 e7 hcd
            generalize (bg k).comS 1 = c1 at *
            obtain ⟨m, hm⟩ : ∃ m : Nat, m = min k 4 := ⟨_, rfl⟩
            rw [← hm] at hb hct
            have hmi : min (k : Int) 4 = (m : Int) := by omega
            have HMM := Lib.hid hm
            clear hm
            go_wp2_with (first
              | (go_at_call 26; (with_reducible refine (hc2.out _ H3.out).mono ?_); rintro e w4 ⟨rfl, h4⟩; have H4 := Lib.hid h4; clear h4)
              | (go_at_call 26; (with_reducible refine hc.out.mono ?_); rintro e w2 ⟨rfl, h2⟩; have H2 := Lib.hid h2; clear h2)
              | (go_at_call 24; (with_reducible refine (hb.out _ H2.out).mono ?_); rintro e w3 ⟨rfl, h3⟩; have H3 := Lib.hid h3; clear h3)
              | (go_at_call 27; (with_reducible refine (ha2.out _ H4.out).mono ?_); rintro e w5 ⟨rfl, h5⟩; have H5 := Lib.hid h5; clear h5)
              | (go_at_call 11; (with_reducible refine (hct.out _ H5.out).mono ?_); rintro e w6 ⟨rfl, h6⟩; have H6 := Lib.hid (H5.out.below h6); clear h6)
              | (go_at_call 23; (with_reducible refine (DK.out _).mono ?_); rintro e w8 ⟨rfl, hb8⟩; have H8 := Lib.hid (H6.out.below hb8); clear hb8))
            all_goals (
              go_ret
              exact ⟨rfl, H8.out.all⟩)
          | false =>
            obtain ⟨e1, e2, e3, e4, e5, e6, e7⟩ := bg_ab k (by omega) hpos
            have hc := Lib.hid (sys_abort HS.out 1 (by rw [bg_len k (by omega)]; omega))
            rw [e0] at hc
            have hb := Lib.hid (fun W (h : Sys w W a ((bg k).abS 1)) => sys_begin h (by rw [e7]; omega))
            rw [e1, e2] at hb
            obtain ⟨c, hcd⟩ : ∃ c, ((bg k).abS 1).beg = c := ⟨_, rfl⟩
            rw [hcd] at hb e3 e4 e5 e6
            have hc2 := Lib.hid (fun W (h : Sys w W a c) => sys_commit h 1 (by omega) (by omega))
            have ha2 := Lib.hid (fun W (h : Sys w W a c) => sys_abort h 1 (by omega))
            rw [e3, (no_com e3).1] at hc2
            rw [e3, (no_com e3).2] at ha2
            have hct := Lib.hid (fun W (h : Sys w W a c) => sys_count h)
            rw [e4] at hct
            clear e0 e1 e2 e3 e4 e5 e6 e7 hcd
            generalize (bg k).abS 1 = c1 at *
            obtain ⟨m, hm⟩ : ∃ m : Nat, m = min k 4 := ⟨_, rfl⟩
            rw [← hm] at hb hct
            have hmi : min (k : Int) 4 = (m : Int) := by omega
            have HMM := Lib.hid hm
            clear hm
            go_wp2_with (first
              | (go_at_call 26; (with_reducible refine (hc2.out _ H3.out).mono ?_); rintro e w4 ⟨rfl, h4⟩; have H4 := Lib.hid h4; clear h4)
              | (go_at_call 24; (with_reducible refine (hb.out _ H2.out).mono ?_); rintro e w3 ⟨rfl, h3⟩; have H3 := Lib.hid h3; clear h3)
              | (go_at_call 27; (with_reducible refine (ha2.out _ H4.out).mono ?_); rintro e w5 ⟨rfl, h5⟩; have H5 := Lib.hid h5; clear h5)
              | (go_at_call 27; (with_reducible refine hc.out.mono ?_); rintro e w2 ⟨rfl, h2⟩; have H2 := Lib.hid h2; clear h2)
              | (go_at_call 11; (with_reducible refine (hct.out _ H5.out).mono ?_); rintro e w6 ⟨rfl, h6⟩; have H6 := Lib.hid (H5.out.below h6); clear h6)
              | (go_at_call 23; (with_reducible refine (DK.out _).mono ?_); rintro e w8 ⟨rfl, hb8⟩; have H8 := Lib.hid (H6.out.below hb8); clear hb8))
            all_goals (
              go_ret
              exact ⟨rfl, H8.out.all⟩)

set_option maxRecDepth 100000 in
theorem lifted (os : Os) (started : os.Started) (H : Type) (enc : TypeId × Value → H) :
    ReturnsInHanded {} Try.checked os 5 .any (Rows.clockFullSpec.pre6 enc Try.prog Try.f5 Rows.clockFullRow.domain false) (Rows.clockFullSpec.post enc Try.prog Try.f5 false true false false) := by
  refine returnsInHanded_of_change (C := Try.checked) own started (by kernel_rfl) Try.func5
    (ChangeSpec.witness6 (enc := enc) (C := Try.checked) false ⟨#[], #[.int .i64 0, .bool false], []⟩ 8 (by kernel_rfl) (by kernel_rfl) (by kernel_rfl) (by kernel_rfl)) ?_
  intro W base args ds gs before hval0 hW hcnd _
  have hval : ∀ (j : Nat) t v, Try.f5.params[j]? = some t → args[j]? = some v → Value.okWide Try.prog W .any base t v := hval0
  have hW' := hW
  obtain ⟨p, q, hA0, hV, rfl, hfz, hnd⟩ := hW
  have hA : DataW.TrodAll enc Try.prog W 0 (fun _ => true) true Try.f5.params.toList args.toList ds p := hA0
  rw [Try.params5] at hA hval
  obtain ⟨v0, vs0, d0, ds0, p0, q0, hargs, rfl, rfl, h0, r0⟩ := trodAll_cons hA
  obtain ⟨v1, vs1, d1, ds1, p1, q1, rfl, rfl, rfl, h1, r1⟩ := trodAll_cons r0
  obtain ⟨rfl, rfl, rfl⟩ := trodAll_nil r1
  obtain rfl : args = #[v0, v1] := by cases args; simp_all
  obtain ⟨rfl, rfl⟩ := trodVars_none hV
  obtain ⟨a0, rfl, rfl, rfl, w0⟩ := open_int Try.underlying3 (hval 0 3 v0 rfl rfl) h0
  obtain ⟨a1, rfl, rfl, rfl⟩ := open_bool Try.underlying4 (hval 1 4 v1 rfl rfl) h1
  clear hA0 hval0
  refine (walk a0 a1 W w0).mono fun e W' ⟨he, bel⟩ => ?_
  subst he
  exact ⟨_, rfl, _, _, _, [], _, [], hW', trodAll_mk1 (shut_bool Try.underlying4 _), (trodAll_cons_mk (shut_int Try.underlying3 w0) (trodAll_cons_mk (shut_bool Try.underlying4 _) trodAll_mk0)), rfl, bel.frame _, fun h => by cases h⟩

theorem over : Rows.clockFullRow.holds Try.pinned (OpenSpec.ofChange Rows.clockFullSpec) :=
  OpenClaim.holds_of_wide 5 Try.f5 rfl rfl rfl rfl rfl rfl rfl ⟨rfl, rfl, rfl, rfl, rfl⟩ rfl rfl rfl rfl rfl (by kernel_rfl) Try.func5 (by kernel_rfl)
    (of_decide_eq_true (by kernel_rfl)) (by unfold Func.isWrapper; first | (rw [if_pos (by decide +kernel)]; kernel_rfl) | (rw [if_neg (by decide +kernel)]; exact ⟨rfl, rfl⟩))
    (fun os started H enc _ => lifted os started H enc)

theorem proved : Rows.ClockFullSaid := over
#print axioms proved
end Go.Proofs.Ytpeecgieohbolaa.clockFull
