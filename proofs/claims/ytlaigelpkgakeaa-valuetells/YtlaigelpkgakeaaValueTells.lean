/- Proved: ligaturelaw2.ValueTells returns true for all values a, b and c, and leaves its arguments as they were. No condition. -/
import Derived.Test.YtlaigelpkgakeaaRows
import Derived.Test.YtlaigelpkgakeaaVh
import Derived.WalkKit
import Derived.ProofKit
import Derived.OpenShut
import Derived.ShutString
import Derived.ChangeOld
import Derived.Below
namespace Go.Proofs.Ytlaigelpkgakeaa.valueTells
open Fl (S IR nanB normN keyN NaNw cmpK)
open Val (cmpI cmpB cmpT ltT eqT V cmpV byteOk textOk blankB oddB isB plainB)
open Go.ChangeShapes Go.WideShapes Go.ChangeAt Go.RowKit
open Go.ChangeMaps (open_string shut_string)
set_option linter.unusedVariables false
theorem own : ownKnob Try.prog.godebug = none := by kernel_rfl
theorem laidOut : laidOutB Try.prog = true := by kernel_rfl

set_option maxHeartbeats 4000000 in
theorem walk (a0 : V) (a1 : V) (a2 : V) (w : World) (w0 : VOk a0) (w1 : VOk a1) (w2 : VOk a2) :
    Calls Try.prog 3 #[vv a0, vv a1, vv a2] w fun e w' => e = .returned (.bool true) ∧ Below w.heap.size w w' := by
  have hts : ∀ x ∈ [a0, a1, a2], x.t.size ≤ maxLen := by
    intro x hx; simp at hx; rcases hx with rfl | rfl | rfl
    · exact w0.t
    · exact w1.t
    · exact w2.t
  have Hts := Lib.hid hts
  clear hts
  have HR := Lib.hid (fun W g hg => vrow_new W g hg 24 [a0, a1, a2] _ rfl)
  have H0 := Lib.hid w0
  have H1 := Lib.hid w1
  have H2 := Lib.hid w2
  have Hs := Lib.hid (show sameV a0 a1 = (cmpV a0 a1 == 0) from rfl)
  clear w0 w1 w2
  cases hd : decide (300 < wrap64 (wrap64 (↑a0.t.size + ↑a1.t.size) + ↑a2.t.size))
  · obtain ⟨i, hi⟩ : ∃ i, isB a0 = i := ⟨_, rfl⟩
    have HI := Lib.hid hi
    clear hi
    cases i <;> cases ha : allV [a0, a1, a2]
    · skip
      go_enter Try.func3, Try.ntmps3
      go_wp2_with fail
      go_region_held3 (fun w' => Below (bx3 w a0 a1 a2).heap.size (bx3 w a0 a1 a2) w' ∧ ∀ b o, b < (bx3 w a0 a1 a2).heap.size → w'.cell? ⟨b, o, none⟩ = (bx3 w a0 a1 a2).cell? ⟨b, o, none⟩)
        (first | exact held0 _ | exact held1 hb (by assumption))
        (first
          | (go_at_call 11; refine (vis_any a0 H0.out.t _).mono ?_; rintro e w1 ⟨rfl, hb⟩; rw [HI.out])
          | (go_at_call 12; refine (ris_any a0 H0.out.t _).mono ?_; rintro e w2 ⟨rfl, hb⟩; rw [HI.out]))
      rename_i hH
      have Hb2 := Lib.hid hH.1
      clear hH hb
      obtain ⟨hc, hf⟩ := bcell Hb2.out
      go_wp2_with fail
      refine (may_any _ [a0, a1, a2] _ _ (HR.out _ _ rfl) (by simp) Hts.out).mono ?_
      rintro e w3 ⟨rfl, hb⟩
      have Hb3 := Lib.hid ((Hb2.out.trans ((one_box w2 _).mono Hb2.out.size)).trans (hb.mono (Nat.le_trans Hb2.out.size (by simp))))
      clear hb hc hf
      obtain ⟨hc, hf⟩ := bcell Hb3.out
      have hs := Hb3.out.size
      simp at hs
      have hz0 : w.heap.size < w3.heap.size := by omega
      have hz1 : w.heap.size + 1 < w3.heap.size := by omega
      have hz2 : w.heap.size + 1 + 1 < w3.heap.size := by omega
      clear hs
      go_wp2_with fail
      refine (known_any _).mono ?_
      rintro e w4 ⟨rfl, hb⟩
      have Hb4 := Lib.hid (bnext Hb3.out hb)
      clear hb
      go_wp2_with fail
      go_ret
      exact ⟨rfl, (three_boxes w _ _ _).trans (Hb4.out.mono (by simp; omega))⟩
    · exfalso
      rw [allV_3, HI.out] at ha; cases ha
    · skip
      go_enter Try.func3, Try.ntmps3
      go_wp2_with fail
      go_region_held3 (fun w' => Below (bx3 w a0 a1 a2).heap.size (bx3 w a0 a1 a2) w' ∧ ∀ b o, b < (bx3 w a0 a1 a2).heap.size → w'.cell? ⟨b, o, none⟩ = (bx3 w a0 a1 a2).cell? ⟨b, o, none⟩)
        (first | exact held0 _ | exact held1 hb (by assumption))
        (first
          | (go_at_call 11; refine (vis_any a0 H0.out.t _).mono ?_; rintro e w1 ⟨rfl, hb⟩; rw [HI.out])
          | (go_at_call 12; refine (ris_any a0 H0.out.t _).mono ?_; rintro e w2 ⟨rfl, hb⟩; rw [HI.out]))
      rename_i hH
      have Hb2 := Lib.hid hH.1
      clear hH hb
      obtain ⟨hc, hf⟩ := bcell Hb2.out
      go_wp2_with fail
      refine (may_any _ [a0, a1, a2] _ _ (HR.out _ _ rfl) (by simp) Hts.out).mono ?_
      rintro e w3 ⟨rfl, hb⟩
      have Hb3 := Lib.hid ((Hb2.out.trans ((one_box w2 _).mono Hb2.out.size)).trans (hb.mono (Nat.le_trans Hb2.out.size (by simp))))
      clear hb hc hf
      obtain ⟨hc, hf⟩ := bcell Hb3.out
      have hs := Hb3.out.size
      simp at hs
      have hz0 : w.heap.size < w3.heap.size := by omega
      have hz1 : w.heap.size + 1 < w3.heap.size := by omega
      have hz2 : w.heap.size + 1 + 1 < w3.heap.size := by omega
      clear hs
      go_wp2_with fail
      refine (known_any _).mono ?_
      rintro e w4 ⟨rfl, hb⟩
      have Hb4 := Lib.hid (bnext Hb3.out hb)
      clear hb
      go_wp2_with fail
      go_ret
      exact ⟨rfl, (three_boxes w _ _ _).trans (Hb4.out.mono (by simp; omega))⟩
    · skip
      go_enter Try.func3, Try.ntmps3
      go_wp2_with fail
      go_region_held3 (fun w' => Below (bx3 w a0 a1 a2).heap.size (bx3 w a0 a1 a2) w' ∧ ∀ b o, b < (bx3 w a0 a1 a2).heap.size → w'.cell? ⟨b, o, none⟩ = (bx3 w a0 a1 a2).cell? ⟨b, o, none⟩)
        (first | exact held0 _ | exact held1 hb (by assumption))
        (first
          | (go_at_call 11; refine (vis_any a0 H0.out.t _).mono ?_; rintro e w1 ⟨rfl, hb⟩; rw [HI.out])
          | (go_at_call 12; refine (ris_any a0 H0.out.t _).mono ?_; rintro e w2 ⟨rfl, hb⟩; rw [HI.out]))
      rename_i hH
      have Hb2 := Lib.hid hH.1
      clear hH hb
      obtain ⟨hc, hf⟩ := bcell Hb2.out
      go_wp2_with fail
      refine (may_any _ [a0, a1, a2] _ _ (HR.out _ _ rfl) (by simp) Hts.out).mono ?_
      rintro e w3 ⟨rfl, hb⟩
      have Hb3 := Lib.hid ((Hb2.out.trans ((one_box w2 _).mono Hb2.out.size)).trans (hb.mono (Nat.le_trans Hb2.out.size (by simp))))
      clear hb hc hf
      obtain ⟨hc, hf⟩ := bcell Hb3.out
      have hs := Hb3.out.size
      simp at hs
      have hz0 : w.heap.size < w3.heap.size := by omega
      have hz1 : w.heap.size + 1 < w3.heap.size := by omega
      have hz2 : w.heap.size + 1 + 1 < w3.heap.size := by omega
      clear hs
      go_wp2_with fail
      go_region_held3 (fun w' => Below w3.heap.size w3 w' ∧ ∀ b o, b < w3.heap.size → w'.cell? ⟨b, o, none⟩ = w3.cell? ⟨b, o, none⟩)
        (first | exact held0 _ | exact held1 hb (by assumption))
        (first
          | (go_at_call 15; refine (vcmp_any a0 a1 H0.out.f H1.out.f _).mono ?_; rintro e w4 ⟨rfl, hb⟩)
          | (go_at_call 16; refine (rvcmp_any a0 a1 H0.out.f H1.out.f _).mono ?_; rintro e w5 ⟨rfl, hb⟩)
          | (go_at_call 17; refine (vsame_any a0 a1 H0.out.f H1.out.f _).mono ?_; rintro e w6 ⟨rfl, hb⟩; rw [Hs.out])
          | (go_at_call 18; refine (vin_any a0 a1 a2 H0.out.f H1.out.f H2.out.f _).mono ?_; rintro e w7 ⟨rfl, hb⟩)
          | (go_at_call 19; refine (rvin_any a0 a1 a2 H0.out.f H1.out.f H2.out.f _).mono ?_; rintro e w8 ⟨rfl, hb⟩)
          | (go_at_call 14; refine (known_any _).mono ?_; rintro e w9 ⟨rfl, hb⟩))
      all_goals
        have HB := Lib.hid (held2 ((three_boxes w _ _ _).trans (Hb3.out.mono (by simp; omega))) (by assumption))
        go_wp2_with fail
        go_ret
        exact ⟨rfl, HB.out⟩
  · go_enter Try.func3, Try.ntmps3
    go_wp2_with fail
    go_ret
    exact ⟨rfl, three_boxes w _ _ _⟩

set_option maxRecDepth 100000 in
theorem lifted (os : Os) (started : os.Started) (H : Type) (enc : TypeId × Value → H) :
    ReturnsInHanded {} Try.checked os 3 .any (Rows.valueTellsSpec.pre6 enc Try.prog Try.f3 Rows.valueTellsRow.domain false) (Rows.valueTellsSpec.post enc Try.prog Try.f3 false true false false) := by
  refine returnsInHanded_of_change (C := Try.checked) own started (by kernel_rfl) Try.func3
    (ChangeSpec.witness6 (enc := enc) (C := Try.checked) false ⟨#[], #[.agg #[.int .i64 0, .bool false, .int .i64 0, .float .f64 0, .string ByteArray.empty], .agg #[.int .i64 0, .bool false, .int .i64 0, .float .f64 0, .string ByteArray.empty], .agg #[.int .i64 0, .bool false, .int .i64 0, .float .f64 0, .string ByteArray.empty]], []⟩ 8 (by kernel_rfl) (by kernel_rfl) (by kernel_rfl) (by kernel_rfl)) ?_
  intro W base args ds gs before hval0 hW hcnd _
  have hval : ∀ (j : Nat) t v, Try.f3.params[j]? = some t → args[j]? = some v → Value.okWide Try.prog W .any base t v := hval0
  have hW' := hW
  obtain ⟨p, q, hA0, hV, rfl, hfz, hnd⟩ := hW
  have hA : DataW.TrodAll enc Try.prog W 0 (fun _ => true) true Try.f3.params.toList args.toList ds p := hA0
  rw [Try.params3] at hA hval
  obtain ⟨v0, vs0, d0, ds0, p0, q0, hargs, rfl, rfl, h0, r0⟩ := trodAll_cons hA
  obtain ⟨v1, vs1, d1, ds1, p1, q1, rfl, rfl, rfl, h1, r1⟩ := trodAll_cons r0
  obtain ⟨v2, vs2, d2, ds2, p2, q2, rfl, rfl, rfl, h2, r2⟩ := trodAll_cons r1
  obtain ⟨rfl, rfl, rfl⟩ := trodAll_nil r2
  obtain rfl : args = #[v0, v1, v2] := by cases args; simp_all
  obtain ⟨rfl, rfl⟩ := trodVars_none hV
  have k0 := h0
  have lt0 : ∀ x ∈ p0, x.block < W.heap.size := by obtain ⟨m, hm⟩ := k0; exact DataW.trod_lt m _ _ _ hm
  obtain ⟨a0, rfl, w0⟩ := open_val (hval 0 24 v0 rfl rfl) h0
  have k1 := h1
  have lt1 : ∀ x ∈ p1, x.block < W.heap.size := by obtain ⟨m, hm⟩ := k1; exact DataW.trod_lt m _ _ _ hm
  obtain ⟨a1, rfl, w1⟩ := open_val (hval 1 24 v1 rfl rfl) h1
  have k2 := h2
  have lt2 : ∀ x ∈ p2, x.block < W.heap.size := by obtain ⟨m, hm⟩ := k2; exact DataW.trod_lt m _ _ _ hm
  obtain ⟨a2, rfl, w2⟩ := open_val (hval 2 24 v2 rfl rfl) h2
  clear hA0 hval0
  refine (walk a0 a1 a2 W w0 w1 w2).mono fun e W' ⟨he, bel⟩ => ?_
  subst he
  exact ⟨_, rfl, _, _, _, [], _, [], hW', trodAll_mk1 (shut_bool Try.underlying4 _), (trodAll_cons_mk (Below.trod laidOut (by kernel_rfl) (of_decide_eq_true (by kernel_rfl)) k0 bel lt0) (trodAll_cons_mk (Below.trod laidOut (by kernel_rfl) (of_decide_eq_true (by kernel_rfl)) k1 bel lt1) (trodAll_cons_mk (Below.trod laidOut (by kernel_rfl) (of_decide_eq_true (by kernel_rfl)) k2 bel lt2) trodAll_mk0))), rfl, bel.frame _, fun h => by cases h⟩

theorem over : Rows.valueTellsRow.holds Try.pinned (OpenSpec.ofChange Rows.valueTellsSpec) :=
  OpenClaim.holds_of_wide 3 Try.f3 rfl rfl rfl rfl rfl rfl rfl ⟨rfl, rfl, rfl, rfl, rfl⟩ rfl rfl rfl rfl rfl (by kernel_rfl) Try.func3 (by kernel_rfl)
    (of_decide_eq_true (by kernel_rfl)) (by unfold Func.isWrapper; first | (rw [if_pos (by decide +kernel)]; kernel_rfl) | (rw [if_neg (by decide +kernel)]; exact ⟨rfl, rfl⟩))
    (fun os started H enc _ => lifted os started H enc)

theorem proved : Rows.ValueTellsSaid := over
#print axioms proved
end Go.Proofs.Ytlaigelpkgakeaa.valueTells
