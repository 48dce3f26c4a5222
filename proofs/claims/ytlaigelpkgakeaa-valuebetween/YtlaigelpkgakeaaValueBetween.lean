/- Proved: ligaturelaw2.ValueBetween returns true for all values v, lo and hi, and leaves its arguments as they were. No condition. -/
import Derived.Test.YtlaigelpkgakeaaRows
import Derived.Test.YtlaigelpkgakeaaVh
import Derived.Test.YtlaigelpkgakeaaVq
import Derived.Lib.QuietBelow
import Derived.WalkKit
import Derived.ProofKit
import Derived.OpenShut
import Derived.ShutString
import Derived.ChangeOld
import Derived.Below
namespace Go.Proofs.Ytlaigelpkgakeaa.valueBetween
open Fl (S IR nanB normN keyN NaNw cmpK)
open Val (cmpI cmpB cmpT ltT eqT V cmpV byteOk textOk blankB oddB isB plainB cmprV)
open Go.ChangeShapes Go.WideShapes Go.ChangeAt Go.RowKit
open Go.ChangeMaps (open_string shut_string)
set_option linter.unusedVariables false
theorem own : ownKnob Try.prog.godebug = none := by kernel_rfl
theorem laidOut : laidOutB Try.prog = true := by kernel_rfl

set_option maxHeartbeats 4000000 in
theorem walk (a0 : V) (a1 : V) (a2 : V) (w : World) (w0 : VOk a0) (w1 : VOk a1) (w2 : VOk a2) :
    Calls Try.prog 5 #[vv a0, vv a1, vv a2] w fun e w' => e = .returned (.bool true) ∧ Below w.heap.size w w' := by
  have hts : ∀ x ∈ [a0, a1, a2], x.t.size ≤ maxLen := by
    intro x hx; simp at hx; rcases hx with rfl | rfl | rfl
    · exact w0.t
    · exact w1.t
    · exact w2.t
  have Hts := Lib.hid hts
  clear hts
  have HR := Lib.hid (fun W g hg => vrow_new W g hg 24 [a0, a1, a2] _ rfl)
  have H0 := Lib.hid w0
  have H1 := Lib.hid w1
  have H2 := Lib.hid w2
  clear w0 w1 w2
  cases ha : allV [a0, a1, a2]
  · skip
    go_enter Try.func5, Try.ntmps5
    go_wp2_with fail
    refine (may_any _ [a0, a1, a2] _ _ (HR.out _ _ (by simp)) (by simp) Hts.out).mono ?_
    rintro e w3 ⟨rfl, hb⟩
    have Hb3 := Lib.hid (((three_boxes w _ _ _).trans ((one_box _ _).mono (by simp; omega))).trans (hb.mono (by simp; omega)))
    obtain ⟨hc, hf⟩ := bcell hb
    have hs := hb.size
    simp at hs
    have hz0 : w.heap.size < w3.heap.size := by omega
    have hz1 : w.heap.size + 1 < w3.heap.size := by omega
    have hz2 : w.heap.size + 1 + 1 < w3.heap.size := by omega
    clear hs hb
    go_wp2_with fail
    go_ret
    exact ⟨rfl, Hb3.out⟩
  · have sw := cmprV.swap a1 a0
    have tr := cmprV.trans a1 a0 a2
    have Hi0 := Lib.hid (show inV a0 a0 a0 = true by unfold inV; rw [Val.cmpV_self]; rfl)
    have hi : inV a0 a1 a2 = (decide (cmpV a1 a0 ≤ 0) && decide (cmpV a0 a2 ≤ 0)) := by
      unfold inV; congr 1; rw [Bool.eq_iff_iff]; simp; omega
    have Hi' := Lib.hid hi
    have Htr := Lib.hid tr
    clear sw tr hi
    by_cases hp : cmpV a1 a0 ≤ 0
    · have hp1 : decide (cmpV a1 a0 ≤ 0) = true := by simpa using hp
      by_cases hq : cmpV a0 a2 ≤ 0
      · have hq1 : decide (cmpV a0 a2 ≤ 0) = true := by simpa using hq
        have hr1 : decide (cmpV a1 a2 ≤ 0) = true := by simpa using Htr.out hp hq
        have Hi := Lib.hid (show inV a0 a1 a2 = true by rw [Hi'.out, hp1, hq1]; rfl)
        clear hp hq
        go_enter Try.func5, Try.ntmps5
        go_wp2_with fail
        refine (may_any _ [a0, a1, a2] _ _ (HR.out _ _ (by simp)) (by simp) Hts.out).mono ?_
        rintro e w3 ⟨rfl, hb⟩
        have Hb3 := Lib.hid (((three_boxes w _ _ _).trans ((one_box _ _).mono (by simp; omega))).trans (hb.mono (by simp; omega)))
        obtain ⟨hc, hf⟩ := bcell hb
        have hs := hb.size
        simp at hs
        have hz0 : w.heap.size < w3.heap.size := by omega
        have hz1 : w.heap.size + 1 < w3.heap.size := by omega
        have hz2 : w.heap.size + 1 + 1 < w3.heap.size := by omega
        clear hs hb
        go_wp2_with fail
        have hg : ∀ d os b o, b < w3.heap.size → (Sort.grow (redrawn w3 d) os).cell? ⟨b, o, none⟩ = w3.cell? ⟨b, o, none⟩ := fun d os b o h => (below_regrown w3 d os).cell (p := ⟨b, o, none⟩) h
        have HIn0 : ∀ d os, Calls Try.prog 18 #[vv a0, vv a0, vv a0] (Sort.grow (redrawn w3 d) os) fun e w'' => e = .returned (.bool true) ∧ ∃ p : Regrown, w'' = Sort.grow (redrawn w3 p.d) p.os := fun d os => Calls.regrown_of (by have := vin_any a0 a0 a0 H0.out.f H0.out.f H0.out.f (Sort.grow (redrawn w3 d) os); rw [Hi0.out] at this; exact this)
        have HIn : ∀ d os, Calls Try.prog 18 #[vv a0, vv a1, vv a2] (Sort.grow (redrawn w3 d) os) fun e w'' => e = .returned (.bool true) ∧ ∃ p : Regrown, w'' = Sort.grow (redrawn w3 p.d) p.os := fun d os => Calls.regrown_of (by have := vin_any a0 a1 a2 H0.out.f H1.out.f H2.out.f (Sort.grow (redrawn w3 d) os); rw [Hi.out] at this; exact this)
        have hIn0 := Lib.hid HIn0
        have hIn := Lib.hid HIn
        clear HIn0 HIn
        refine wp_region_quiet_below (by kernel_rfl) (by kernel_rfl) ?_
        repeat (quiet_step ((first
            | (go_at_call 15; with_reducible exact Calls.regrown_of (vcmp_any a1 a0 H1.out.f H0.out.f _))
            | (go_at_call 15; with_reducible exact Calls.regrown_of (vcmp_any a0 a2 H0.out.f H2.out.f _))
            | (go_at_call 15; with_reducible exact Calls.regrown_of (vcmp_any a1 a2 H1.out.f H2.out.f _))
            | (go_at_call 18; with_reducible exact hIn0.out _ _)
            | (go_at_call 18; with_reducible exact hIn.out _ _)
            | (go_at_call 14; with_reducible exact Calls.regrown_of (known_any _)))))
        refine wpQuiet_nil ?_
        intro _ hw'
        obtain ⟨⟨dq, osq⟩, hw''⟩ := hw'
        subst hw''
        have HB := Lib.hid (Hb3.out.trans ((below_regrown w3 dq osq).mono Hb3.out.size))
        go_wp2_with fail
        go_ret
        exact ⟨rfl, HB.out⟩
      · have hq1 : decide (cmpV a0 a2 ≤ 0) = false := by simpa using hq
        have Hi := Lib.hid (show inV a0 a1 a2 = false by rw [Hi'.out, hp1, hq1]; rfl)
        clear hp hq
        cases hr1 : decide (cmpV a1 a2 ≤ 0)
        · skip
          go_enter Try.func5, Try.ntmps5
          go_wp2_with fail
          refine (may_any _ [a0, a1, a2] _ _ (HR.out _ _ (by simp)) (by simp) Hts.out).mono ?_
          rintro e w3 ⟨rfl, hb⟩
          have Hb3 := Lib.hid (((three_boxes w _ _ _).trans ((one_box _ _).mono (by simp; omega))).trans (hb.mono (by simp; omega)))
          obtain ⟨hc, hf⟩ := bcell hb
          have hs := hb.size
          simp at hs
          have hz0 : w.heap.size < w3.heap.size := by omega
          have hz1 : w.heap.size + 1 < w3.heap.size := by omega
          have hz2 : w.heap.size + 1 + 1 < w3.heap.size := by omega
          clear hs hb
          go_wp2_with fail
          have hg : ∀ d os b o, b < w3.heap.size → (Sort.grow (redrawn w3 d) os).cell? ⟨b, o, none⟩ = w3.cell? ⟨b, o, none⟩ := fun d os b o h => (below_regrown w3 d os).cell (p := ⟨b, o, none⟩) h
          have HIn0 : ∀ d os, Calls Try.prog 18 #[vv a0, vv a0, vv a0] (Sort.grow (redrawn w3 d) os) fun e w'' => e = .returned (.bool true) ∧ ∃ p : Regrown, w'' = Sort.grow (redrawn w3 p.d) p.os := fun d os => Calls.regrown_of (by have := vin_any a0 a0 a0 H0.out.f H0.out.f H0.out.f (Sort.grow (redrawn w3 d) os); rw [Hi0.out] at this; exact this)
          have HIn : ∀ d os, Calls Try.prog 18 #[vv a0, vv a1, vv a2] (Sort.grow (redrawn w3 d) os) fun e w'' => e = .returned (.bool false) ∧ ∃ p : Regrown, w'' = Sort.grow (redrawn w3 p.d) p.os := fun d os => Calls.regrown_of (by have := vin_any a0 a1 a2 H0.out.f H1.out.f H2.out.f (Sort.grow (redrawn w3 d) os); rw [Hi.out] at this; exact this)
          have hIn0 := Lib.hid HIn0
          have hIn := Lib.hid HIn
          clear HIn0 HIn
          refine wp_region_quiet_below (by kernel_rfl) (by kernel_rfl) ?_
          repeat (quiet_step ((first
              | (go_at_call 15; with_reducible exact Calls.regrown_of (vcmp_any a1 a0 H1.out.f H0.out.f _))
              | (go_at_call 15; with_reducible exact Calls.regrown_of (vcmp_any a0 a2 H0.out.f H2.out.f _))
              | (go_at_call 15; with_reducible exact Calls.regrown_of (vcmp_any a1 a2 H1.out.f H2.out.f _))
              | (go_at_call 18; with_reducible exact hIn0.out _ _)
              | (go_at_call 18; with_reducible exact hIn.out _ _)
              | (go_at_call 14; with_reducible exact Calls.regrown_of (known_any _)))))
          refine wpQuiet_nil ?_
          intro _ hw'
          obtain ⟨⟨dq, osq⟩, hw''⟩ := hw'
          subst hw''
          have HB := Lib.hid (Hb3.out.trans ((below_regrown w3 dq osq).mono Hb3.out.size))
          go_wp2_with fail
          go_ret
          exact ⟨rfl, HB.out⟩
        · skip
          go_enter Try.func5, Try.ntmps5
          go_wp2_with fail
          refine (may_any _ [a0, a1, a2] _ _ (HR.out _ _ (by simp)) (by simp) Hts.out).mono ?_
          rintro e w3 ⟨rfl, hb⟩
          have Hb3 := Lib.hid (((three_boxes w _ _ _).trans ((one_box _ _).mono (by simp; omega))).trans (hb.mono (by simp; omega)))
          obtain ⟨hc, hf⟩ := bcell hb
          have hs := hb.size
          simp at hs
          have hz0 : w.heap.size < w3.heap.size := by omega
          have hz1 : w.heap.size + 1 < w3.heap.size := by omega
          have hz2 : w.heap.size + 1 + 1 < w3.heap.size := by omega
          clear hs hb
          go_wp2_with fail
          have hg : ∀ d os b o, b < w3.heap.size → (Sort.grow (redrawn w3 d) os).cell? ⟨b, o, none⟩ = w3.cell? ⟨b, o, none⟩ := fun d os b o h => (below_regrown w3 d os).cell (p := ⟨b, o, none⟩) h
          have HIn0 : ∀ d os, Calls Try.prog 18 #[vv a0, vv a0, vv a0] (Sort.grow (redrawn w3 d) os) fun e w'' => e = .returned (.bool true) ∧ ∃ p : Regrown, w'' = Sort.grow (redrawn w3 p.d) p.os := fun d os => Calls.regrown_of (by have := vin_any a0 a0 a0 H0.out.f H0.out.f H0.out.f (Sort.grow (redrawn w3 d) os); rw [Hi0.out] at this; exact this)
          have HIn : ∀ d os, Calls Try.prog 18 #[vv a0, vv a1, vv a2] (Sort.grow (redrawn w3 d) os) fun e w'' => e = .returned (.bool false) ∧ ∃ p : Regrown, w'' = Sort.grow (redrawn w3 p.d) p.os := fun d os => Calls.regrown_of (by have := vin_any a0 a1 a2 H0.out.f H1.out.f H2.out.f (Sort.grow (redrawn w3 d) os); rw [Hi.out] at this; exact this)
          have hIn0 := Lib.hid HIn0
          have hIn := Lib.hid HIn
          clear HIn0 HIn
          refine wp_region_quiet_below (by kernel_rfl) (by kernel_rfl) ?_
          repeat (quiet_step ((first
              | (go_at_call 15; with_reducible exact Calls.regrown_of (vcmp_any a1 a0 H1.out.f H0.out.f _))
              | (go_at_call 15; with_reducible exact Calls.regrown_of (vcmp_any a0 a2 H0.out.f H2.out.f _))
              | (go_at_call 15; with_reducible exact Calls.regrown_of (vcmp_any a1 a2 H1.out.f H2.out.f _))
              | (go_at_call 18; with_reducible exact hIn0.out _ _)
              | (go_at_call 18; with_reducible exact hIn.out _ _)
              | (go_at_call 14; with_reducible exact Calls.regrown_of (known_any _)))))
          refine wpQuiet_nil ?_
          intro _ hw'
          obtain ⟨⟨dq, osq⟩, hw''⟩ := hw'
          subst hw''
          have HB := Lib.hid (Hb3.out.trans ((below_regrown w3 dq osq).mono Hb3.out.size))
          go_wp2_with fail
          go_ret
          exact ⟨rfl, HB.out⟩
    · have hp1 : decide (cmpV a1 a0 ≤ 0) = false := by simpa using hp
      have Hi := Lib.hid (show inV a0 a1 a2 = false by rw [Hi'.out, hp1]; rfl)
      clear hp
      cases hr1 : decide (cmpV a1 a2 ≤ 0)
      · skip
        go_enter Try.func5, Try.ntmps5
        go_wp2_with fail
        refine (may_any _ [a0, a1, a2] _ _ (HR.out _ _ (by simp)) (by simp) Hts.out).mono ?_
        rintro e w3 ⟨rfl, hb⟩
        have Hb3 := Lib.hid (((three_boxes w _ _ _).trans ((one_box _ _).mono (by simp; omega))).trans (hb.mono (by simp; omega)))
        obtain ⟨hc, hf⟩ := bcell hb
        have hs := hb.size
        simp at hs
        have hz0 : w.heap.size < w3.heap.size := by omega
        have hz1 : w.heap.size + 1 < w3.heap.size := by omega
        have hz2 : w.heap.size + 1 + 1 < w3.heap.size := by omega
        clear hs hb
        go_wp2_with fail
        have hg : ∀ d os b o, b < w3.heap.size → (Sort.grow (redrawn w3 d) os).cell? ⟨b, o, none⟩ = w3.cell? ⟨b, o, none⟩ := fun d os b o h => (below_regrown w3 d os).cell (p := ⟨b, o, none⟩) h
        have HIn0 : ∀ d os, Calls Try.prog 18 #[vv a0, vv a0, vv a0] (Sort.grow (redrawn w3 d) os) fun e w'' => e = .returned (.bool true) ∧ ∃ p : Regrown, w'' = Sort.grow (redrawn w3 p.d) p.os := fun d os => Calls.regrown_of (by have := vin_any a0 a0 a0 H0.out.f H0.out.f H0.out.f (Sort.grow (redrawn w3 d) os); rw [Hi0.out] at this; exact this)
        have HIn : ∀ d os, Calls Try.prog 18 #[vv a0, vv a1, vv a2] (Sort.grow (redrawn w3 d) os) fun e w'' => e = .returned (.bool false) ∧ ∃ p : Regrown, w'' = Sort.grow (redrawn w3 p.d) p.os := fun d os => Calls.regrown_of (by have := vin_any a0 a1 a2 H0.out.f H1.out.f H2.out.f (Sort.grow (redrawn w3 d) os); rw [Hi.out] at this; exact this)
        have hIn0 := Lib.hid HIn0
        have hIn := Lib.hid HIn
        clear HIn0 HIn
        refine wp_region_quiet_below (by kernel_rfl) (by kernel_rfl) ?_
        repeat (quiet_step ((first
            | (go_at_call 15; with_reducible exact Calls.regrown_of (vcmp_any a1 a0 H1.out.f H0.out.f _))
            | (go_at_call 15; with_reducible exact Calls.regrown_of (vcmp_any a0 a2 H0.out.f H2.out.f _))
            | (go_at_call 15; with_reducible exact Calls.regrown_of (vcmp_any a1 a2 H1.out.f H2.out.f _))
            | (go_at_call 18; with_reducible exact hIn0.out _ _)
            | (go_at_call 18; with_reducible exact hIn.out _ _)
            | (go_at_call 14; with_reducible exact Calls.regrown_of (known_any _)))))
        refine wpQuiet_nil ?_
        intro _ hw'
        obtain ⟨⟨dq, osq⟩, hw''⟩ := hw'
        subst hw''
        have HB := Lib.hid (Hb3.out.trans ((below_regrown w3 dq osq).mono Hb3.out.size))
        go_wp2_with fail
        go_ret
        exact ⟨rfl, HB.out⟩
      · skip
        go_enter Try.func5, Try.ntmps5
        go_wp2_with fail
        refine (may_any _ [a0, a1, a2] _ _ (HR.out _ _ (by simp)) (by simp) Hts.out).mono ?_
        rintro e w3 ⟨rfl, hb⟩
        have Hb3 := Lib.hid (((three_boxes w _ _ _).trans ((one_box _ _).mono (by simp; omega))).trans (hb.mono (by simp; omega)))
        obtain ⟨hc, hf⟩ := bcell hb
        have hs := hb.size
        simp at hs
        have hz0 : w.heap.size < w3.heap.size := by omega
        have hz1 : w.heap.size + 1 < w3.heap.size := by omega
        have hz2 : w.heap.size + 1 + 1 < w3.heap.size := by omega
        clear hs hb
        go_wp2_with fail
        have hg : ∀ d os b o, b < w3.heap.size → (Sort.grow (redrawn w3 d) os).cell? ⟨b, o, none⟩ = w3.cell? ⟨b, o, none⟩ := fun d os b o h => (below_regrown w3 d os).cell (p := ⟨b, o, none⟩) h
        have HIn0 : ∀ d os, Calls Try.prog 18 #[vv a0, vv a0, vv a0] (Sort.grow (redrawn w3 d) os) fun e w'' => e = .returned (.bool true) ∧ ∃ p : Regrown, w'' = Sort.grow (redrawn w3 p.d) p.os := fun d os => Calls.regrown_of (by have := vin_any a0 a0 a0 H0.out.f H0.out.f H0.out.f (Sort.grow (redrawn w3 d) os); rw [Hi0.out] at this; exact this)
        have HIn : ∀ d os, Calls Try.prog 18 #[vv a0, vv a1, vv a2] (Sort.grow (redrawn w3 d) os) fun e w'' => e = .returned (.bool false) ∧ ∃ p : Regrown, w'' = Sort.grow (redrawn w3 p.d) p.os := fun d os => Calls.regrown_of (by have := vin_any a0 a1 a2 H0.out.f H1.out.f H2.out.f (Sort.grow (redrawn w3 d) os); rw [Hi.out] at this; exact this)
        have hIn0 := Lib.hid HIn0
        have hIn := Lib.hid HIn
        clear HIn0 HIn
        refine wp_region_quiet_below (by kernel_rfl) (by kernel_rfl) ?_
        repeat (quiet_step ((first
            | (go_at_call 15; with_reducible exact Calls.regrown_of (vcmp_any a1 a0 H1.out.f H0.out.f _))
            | (go_at_call 15; with_reducible exact Calls.regrown_of (vcmp_any a0 a2 H0.out.f H2.out.f _))
            | (go_at_call 15; with_reducible exact Calls.regrown_of (vcmp_any a1 a2 H1.out.f H2.out.f _))
            | (go_at_call 18; with_reducible exact hIn0.out _ _)
            | (go_at_call 18; with_reducible exact hIn.out _ _)
            | (go_at_call 14; with_reducible exact Calls.regrown_of (known_any _)))))
        refine wpQuiet_nil ?_
        intro _ hw'
        obtain ⟨⟨dq, osq⟩, hw''⟩ := hw'
        subst hw''
        have HB := Lib.hid (Hb3.out.trans ((below_regrown w3 dq osq).mono Hb3.out.size))
        go_wp2_with fail
        go_ret
        exact ⟨rfl, HB.out⟩

set_option maxRecDepth 100000 in
theorem lifted (os : Os) (started : os.Started) (H : Type) (enc : TypeId × Value → H) :
    ReturnsInHanded {} Try.checked os 5 .any (Rows.valueBetweenSpec.pre6 enc Try.prog Try.f5 Rows.valueBetweenRow.domain false) (Rows.valueBetweenSpec.post enc Try.prog Try.f5 false true false false) := by
  refine returnsInHanded_of_change (C := Try.checked) own started (by kernel_rfl) Try.func5
    (ChangeSpec.witness6 (enc := enc) (C := Try.checked) false ⟨#[], #[.agg #[.int .i64 0, .bool false, .int .i64 0, .float .f64 0, .string ByteArray.empty], .agg #[.int .i64 0, .bool false, .int .i64 0, .float .f64 0, .string ByteArray.empty], .agg #[.int .i64 0, .bool false, .int .i64 0, .float .f64 0, .string ByteArray.empty]], []⟩ 8 (by kernel_rfl) (by kernel_rfl) (by kernel_rfl) (by kernel_rfl)) ?_
  intro W base args ds gs before hval0 hW hcnd _
  have hval : ∀ (j : Nat) t v, Try.f5.params[j]? = some t → args[j]? = some v → Value.okWide Try.prog W .any base t v := hval0
  have hW' := hW
  obtain ⟨p, q, hA0, hV, rfl, hfz, hnd⟩ := hW
  have hA : DataW.TrodAll enc Try.prog W 0 (fun _ => true) true Try.f5.params.toList args.toList ds p := hA0
  rw [Try.params5] at hA hval
  obtain ⟨v0, vs0, d0, ds0, p0, q0, hargs, rfl, rfl, h0, r0⟩ := trodAll_cons hA
  obtain ⟨v1, vs1, d1, ds1, p1, q1, rfl, rfl, rfl, h1, r1⟩ := trodAll_cons r0
  obtain ⟨v2, vs2, d2, ds2, p2, q2, rfl, rfl, rfl, h2, r2⟩ := trodAll_cons r1
  obtain ⟨rfl, rfl, rfl⟩ := trodAll_nil r2
  obtain rfl : args = #[v0, v1, v2] := by cases args; simp_all
  obtain ⟨rfl, rfl⟩ := trodVars_none hV
  have k0 := h0
  have lt0 : ∀ x ∈ p0, x.block < W.heap.size := by obtain ⟨m, hm⟩ := k0; exact DataW.trod_lt m _ _ _ hm
  obtain ⟨a0, rfl, w0⟩ := open_val (hval 0 24 v0 rfl rfl) h0
  have k1 := h1
  have lt1 : ∀ x ∈ p1, x.block < W.heap.size := by obtain ⟨m, hm⟩ := k1; exact DataW.trod_lt m _ _ _ hm
  obtain ⟨a1, rfl, w1⟩ := open_val (hval 1 24 v1 rfl rfl) h1
  have k2 := h2
  have lt2 : ∀ x ∈ p2, x.block < W.heap.size := by obtain ⟨m, hm⟩ := k2; exact DataW.trod_lt m _ _ _ hm
  obtain ⟨a2, rfl, w2⟩ := open_val (hval 2 24 v2 rfl rfl) h2
  clear hA0 hval0
  refine (walk a0 a1 a2 W w0 w1 w2).mono fun e W' ⟨he, bel⟩ => ?_
  subst he
  exact ⟨_, rfl, _, _, _, [], _, [], hW', trodAll_mk1 (shut_bool Try.underlying4 _), (trodAll_cons_mk (Below.trod laidOut (by kernel_rfl) (of_decide_eq_true (by kernel_rfl)) k0 bel lt0) (trodAll_cons_mk (Below.trod laidOut (by kernel_rfl) (of_decide_eq_true (by kernel_rfl)) k1 bel lt1) (trodAll_cons_mk (Below.trod laidOut (by kernel_rfl) (of_decide_eq_true (by kernel_rfl)) k2 bel lt2) trodAll_mk0))), rfl, bel.frame _, fun h => by cases h⟩

theorem over : Rows.valueBetweenRow.holds Try.pinned (OpenSpec.ofChange Rows.valueBetweenSpec) :=
  OpenClaim.holds_of_wide 5 Try.f5 rfl rfl rfl rfl rfl rfl rfl ⟨rfl, rfl, rfl, rfl, rfl⟩ rfl rfl rfl rfl rfl (by kernel_rfl) Try.func5 (by kernel_rfl)
    (of_decide_eq_true (by kernel_rfl)) (by unfold Func.isWrapper; first | (rw [if_pos (by decide +kernel)]; kernel_rfl) | (rw [if_neg (by decide +kernel)]; exact ⟨rfl, rfl⟩))
    (fun os started H enc _ => lifted os started H enc)

theorem proved : Rows.ValueBetweenSaid := over
#print axioms proved
end Go.Proofs.Ytlaigelpkgakeaa.valueBetween
