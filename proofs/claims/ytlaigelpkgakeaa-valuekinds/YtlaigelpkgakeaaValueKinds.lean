/- Proved: ligaturelaw2.ValueKinds returns true for all values a and b, and leaves its arguments as they were. No condition. -/
import Derived.Test.YtlaigelpkgakeaaRows
import Derived.Test.YtlaigelpkgakeaaVh
import Derived.WalkKit
import Derived.ProofKit
import Derived.OpenShut
import Derived.ShutString
import Derived.ChangeOld
import Derived.Below
namespace Go.Proofs.Ytlaigelpkgakeaa.valueKinds
open Fl (S IR nanB normN keyN NaNw cmpK)
open Val (cmpI cmpB cmpT ltT eqT V cmpV byteOk textOk blankB oddB isB plainB)
open Go.ChangeShapes Go.WideShapes Go.ChangeAt Go.RowKit
open Go.ChangeMaps (open_string shut_string)
set_option linter.unusedVariables false
theorem own : ownKnob Try.prog.godebug = none := by kernel_rfl
theorem laidOut : laidOutB Try.prog = true := by kernel_rfl

set_option maxHeartbeats 1000000 in
theorem walk (a0 : V) (a1 : V) (w : World) (w0 : VOk a0) (w1 : VOk a1) :
    Calls Try.prog 7 #[vv a0, vv a1] w fun e w' => e = .returned (.bool true) ∧ Below w.heap.size w w' := by
  have hts : ∀ x ∈ [a0, a1], x.t.size ≤ maxLen := by
    intro x hx; simp at hx; rcases hx with rfl | rfl
    · exact w0.t
    · exact w1.t
  have Hts := Lib.hid hts
  clear hts
  have HR := Lib.hid (fun W g hg => vrow_new W g hg 24 [a0, a1] _ rfl)
  cases ha : allV [a0, a1]
  · go_enter Try.func7, Try.ntmps7
    go_wp2_with fail
    refine (may_any _ [a0, a1] _ _ (HR.out _ _ (by simp)) (by simp) Hts.out).mono ?_
    rintro e w1 ⟨rfl, hb⟩
    have Hb := Lib.hid hb
    clear hb
    go_wp2_with fail
    go_ret
    exact ⟨rfl, (three_boxes w _ _ _).trans (Hb.out.mono (by simp; omega))⟩
  · by_cases hk : a0.k = a1.k
    · have hk1 : (a0.k == a1.k) = true := by simpa using hk
      clear hk
      go_enter Try.func7, Try.ntmps7
      go_wp2_with fail
      refine (may_any _ [a0, a1] _ _ (HR.out _ _ (by simp)) (by simp) Hts.out).mono ?_
      rintro e w1 ⟨rfl, hb⟩
      have Hb := Lib.hid hb
      obtain ⟨hc, hf⟩ := bcell hb
      clear hb
      go_wp2_with fail
      go_ret
      exact ⟨rfl, (three_boxes w _ _ _).trans (Hb.out.mono (by simp; omega))⟩
    · have hk1 : (a0.k == a1.k) = false := by simpa using hk
      have Hf0 := Lib.hid w0.f
      have Hf1 := Lib.hid w1.f
      have hs : sameV a0 a1 = false := by unfold sameV cmpV; rw [if_pos hk]; have := cmpI_ne hk; simpa using this
      have hx : (cmpV a0 a1 == -1) = decide (a0.k < a1.k) := by
        unfold cmpV; rw [if_pos hk]; unfold cmpI; rw [Bool.eq_iff_iff]; simp; split <;> (try split) <;> omega
      have Hs := Lib.hid hs
      have Hx := Lib.hid hx
      clear hk hs hx
      cases hl : decide (a0.k < a1.k) <;> rw [hl] at Hx <;>
      · have hx := Hx.out
        go_enter Try.func7, Try.ntmps7
        go_wp2_with fail
        refine (may_any _ [a0, a1] _ _ (HR.out _ _ (by simp)) (by simp) Hts.out).mono ?_
        rintro e w1 ⟨rfl, hb⟩
        have Hb := Lib.hid hb
        obtain ⟨hc, hf⟩ := bcell hb
        have hs := hb.size
        simp at hs
        have hz0 : w.heap.size < w1.heap.size := by omega
        have hz1 : w.heap.size + 1 < w1.heap.size := by omega
        clear hb hs
        go_wp2_with fail
        go_region_held3 (fun w' => Below w1.heap.size w1 w' ∧ ∀ b o, b < w1.heap.size → w'.cell? ⟨b, o, none⟩ = w1.cell? ⟨b, o, none⟩)
          (first | exact held0 _ | exact held1 hb (by assumption))
          (first
            | (go_at_call 15; refine (vcmp_any a0 a1 Hf0.out Hf1.out _).mono ?_; rintro e w2 ⟨rfl, hb⟩)
            | (go_at_call 17; refine (vsame_any a0 a1 Hf0.out Hf1.out _).mono ?_; rintro e w3 ⟨rfl, hb⟩; rw [Hs.out])
            | (go_at_call 14; refine (known_any _).mono ?_; rintro e w4 ⟨rfl, hb⟩))
        all_goals
          have HB := Lib.hid (held2 ((three_boxes w _ _ _).trans (Hb.out.mono (by simp; omega))) (by assumption))
          go_wp2_with fail
          go_ret
          exact ⟨rfl, HB.out⟩

set_option maxRecDepth 100000 in
theorem lifted (os : Os) (started : os.Started) (H : Type) (enc : TypeId × Value → H) :
    ReturnsInHanded {} Try.checked os 7 .any (Rows.valueKindsSpec.pre6 enc Try.prog Try.f7 Rows.valueKindsRow.domain false) (Rows.valueKindsSpec.post enc Try.prog Try.f7 false true false false) := by
  refine returnsInHanded_of_change (C := Try.checked) own started (by kernel_rfl) Try.func7
    (ChangeSpec.witness6 (enc := enc) (C := Try.checked) false ⟨#[], #[.agg #[.int .i64 0, .bool false, .int .i64 0, .float .f64 0, .string ByteArray.empty], .agg #[.int .i64 0, .bool false, .int .i64 0, .float .f64 0, .string ByteArray.empty]], []⟩ 8 (by kernel_rfl) (by kernel_rfl) (by kernel_rfl) (by kernel_rfl)) ?_
  intro W base args ds gs before hval0 hW hcnd _
  have hval : ∀ (j : Nat) t v, Try.f7.params[j]? = some t → args[j]? = some v → Value.okWide Try.prog W .any base t v := hval0
  have hW' := hW
  obtain ⟨p, q, hA0, hV, rfl, hfz, hnd⟩ := hW
  have hA : DataW.TrodAll enc Try.prog W 0 (fun _ => true) true Try.f7.params.toList args.toList ds p := hA0
  rw [Try.params7] at hA hval
  obtain ⟨v0, vs0, d0, ds0, p0, q0, hargs, rfl, rfl, h0, r0⟩ := trodAll_cons hA
  obtain ⟨v1, vs1, d1, ds1, p1, q1, rfl, rfl, rfl, h1, r1⟩ := trodAll_cons r0
  obtain ⟨rfl, rfl, rfl⟩ := trodAll_nil r1
  obtain rfl : args = #[v0, v1] := by cases args; simp_all
  obtain ⟨rfl, rfl⟩ := trodVars_none hV
  have k0 := h0
  have lt0 : ∀ x ∈ p0, x.block < W.heap.size := by obtain ⟨m, hm⟩ := k0; exact DataW.trod_lt m _ _ _ hm
  obtain ⟨a0, rfl, w0⟩ := open_val (hval 0 24 v0 rfl rfl) h0
  have k1 := h1
  have lt1 : ∀ x ∈ p1, x.block < W.heap.size := by obtain ⟨m, hm⟩ := k1; exact DataW.trod_lt m _ _ _ hm
  obtain ⟨a1, rfl, w1⟩ := open_val (hval 1 24 v1 rfl rfl) h1
  clear hA0 hval0
  refine (walk a0 a1 W w0 w1).mono fun e W' ⟨he, bel⟩ => ?_
  subst he
  exact ⟨_, rfl, _, _, _, [], _, [], hW', trodAll_mk1 (shut_bool Try.underlying4 _), (trodAll_cons_mk (Below.trod laidOut (by kernel_rfl) (of_decide_eq_true (by kernel_rfl)) k0 bel lt0) (trodAll_cons_mk (Below.trod laidOut (by kernel_rfl) (of_decide_eq_true (by kernel_rfl)) k1 bel lt1) trodAll_mk0)), rfl, bel.frame _, fun h => by cases h⟩

theorem over : Rows.valueKindsRow.holds Try.pinned (OpenSpec.ofChange Rows.valueKindsSpec) :=
  OpenClaim.holds_of_wide 7 Try.f7 rfl rfl rfl rfl rfl rfl rfl ⟨rfl, rfl, rfl, rfl, rfl⟩ rfl rfl rfl rfl rfl (by kernel_rfl) Try.func7 (by kernel_rfl)
    (of_decide_eq_true (by kernel_rfl)) (by unfold Func.isWrapper; first | (rw [if_pos (by decide +kernel)]; kernel_rfl) | (rw [if_neg (by decide +kernel)]; exact ⟨rfl, rfl⟩))
    (fun os started H enc _ => lifted os started H enc)

theorem proved : Rows.ValueKindsSaid := over
#print axioms proved
end Go.Proofs.Ytlaigelpkgakeaa.valueKinds
