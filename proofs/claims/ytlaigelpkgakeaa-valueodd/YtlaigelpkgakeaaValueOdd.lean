/- Proved: ligaturelaw2.ValueOdd returns true for all ints kind, way and n, and leaves its arguments as they were. No condition. -/
import Derived.Test.YtlaigelpkgakeaaRows
import Derived.Test.YtlaigelpkgakeaaVh
import Derived.Test.YtlaigelpkgakeaaIw
import Derived.WalkKit
import Derived.ProofKit
import Derived.OpenShut
import Derived.ShutString
import Derived.ChangeOld
import Derived.Below
namespace Go.Proofs.Ytlaigelpkgakeaa.valueOdd
open Fl (S IR nanB normN keyN NaNw cmpK)
open Val (cmpI cmpB cmpT ltT eqT V cmpV byteOk textOk blankB oddB isB plainB)
open Go.ChangeShapes Go.WideShapes Go.ChangeAt Go.RowKit
open Go.ChangeMaps (open_string shut_string)
set_option linter.unusedVariables false
theorem own : ownKnob Try.prog.godebug = none := by kernel_rfl
theorem laidOut : laidOutB Try.prog = true := by kernel_rfl
theorem kinds (k : Int) : k = 0 ∨ k = 1 ∨ k = 2 ∨ k = 3 ∨ k = 4 ∨ (k < 0 ∨ 4 < k) := by omega
theorem o0 (k : Int) : isB ⟨k, true, 0, 0, ⟨#[]⟩⟩ = (k == 1) := by
  rcases kinds k with rfl | rfl | rfl | rfl | rfl | h
  · rw [Val.isB0]; rfl
  · rw [Val.isB1]; rfl
  · rw [Val.isB2]; rfl
  · rw [Val.isB3]; rfl
  · rw [Val.isB4]; rfl
  · rw [Val.isB_else _ _ _ _ _ h, Bool.eq_iff_iff]; simp; omega
theorem o1 (k n : Int) (hn : n ≠ 0) : isB ⟨k, false, n, 0, ⟨#[]⟩⟩ = (k == 2) := by
  have e : (n == 0) = false := by simpa using hn
  rcases kinds k with rfl | rfl | rfl | rfl | rfl | h
  · rw [Val.isB0]; simp [blankB, e]
  · rw [Val.isB1]; simp [blankB, e]
  · rw [Val.isB2]; rfl
  · rw [Val.isB3]; simp [blankB, e]
  · rw [Val.isB4]; simp [blankB, e]
  · rw [Val.isB_else _ _ _ _ _ h, Bool.eq_iff_iff]; simp; omega
theorem o2 (k : Int) (f : Nat) (hf : f ≠ 0) (hg : normN f = f) : isB ⟨k, false, 0, f, ⟨#[]⟩⟩ = (k == 3) := by
  have e : (f == 0) = false := by simpa using hf
  rcases kinds k with rfl | rfl | rfl | rfl | rfl | h
  · rw [Val.isB0]; simp [blankB, e]
  · rw [Val.isB1]; simp [blankB, e]
  · rw [Val.isB2]; simp [blankB, e]
  · rw [Val.isB3, hg, show blankB ⟨3, false, 0, 0, ⟨#[]⟩⟩ = true from rfl]; simp
  · rw [Val.isB4]; simp [blankB, e]
  · rw [Val.isB_else _ _ _ _ _ h, Bool.eq_iff_iff]; simp; omega
theorem o3 (k : Int) : isB ⟨k, false, 0, 0, ⟨#[120]⟩⟩ = (k == 4) := by
  rcases kinds k with rfl | rfl | rfl | rfl | rfl | h
  · rw [Val.isB0]; rfl
  · rw [Val.isB1]; rfl
  · rw [Val.isB2]; rfl
  · rw [Val.isB3]; rfl
  · rw [Val.isB4]; rfl
  · rw [Val.isB_else _ _ _ _ _ h, Bool.eq_iff_iff]; simp; omega

set_option maxHeartbeats 2000000 in
theorem walk (a0 : Int) (a1 : Int) (a2 : Int) (w : World) (w0 : (Lit.int .i64 a0).wf = true) (w1 : (Lit.int .i64 a1).wf = true) (w2 : (Lit.int .i64 a2).wf = true) :
    Calls Try.prog 10 #[.int .i64 a0, .int .i64 a1, .int .i64 a2] w fun e w' => e = .returned (.bool true) ∧ Below w.heap.size w w' := by
  clear w0 w1 w2
  by_cases hl : a1 < 0
  · go_enter Try.func10, Try.ntmps10
    go_wp2_with fail
    go_ret
    exact ⟨rfl, Below.refl _ _⟩
  · by_cases hh : 3 < a1
    · go_enter Try.func10, Try.ntmps10
      go_wp2_with fail
      go_ret
      exact ⟨rfl, Below.refl _ _⟩
    · by_cases hn : a2 = 0
      · subst hn
        go_enter Try.func10, Try.ntmps10
        go_wp2_with fail
        go_ret
        exact ⟨rfl, Below.refl _ _⟩
      · have hn1 : (a2 == 0) = false := by simpa using hn
        have H0 := Lib.hid (o0 a0)
        have H1 := Lib.hid (o1 a0 a2 hn)
        have H2 := Lib.hid (o2 a0 _ (Fl.conv_ok a2 hn).1 (Fl.conv_ok a2 hn).2)
        have H3 := Lib.hid (o3 a0)
        have h4 : a1 = 0 ∨ a1 = 1 ∨ a1 = 2 ∨ a1 = 3 := by omega
        have Hm : Hid (∀ s : ByteArray, s.size ≤ 1 → s.size ≤ maxLen) := fun s h => by unfold maxLen; omega
        clear hn hl hh
        rcases h4 with rfl | rfl | rfl | rfl
        · go_enter Try.func10, Try.ntmps10
          go_wp2_with fail
          refine (vis_any ⟨a0, true, 0, 0, ⟨#[]⟩⟩ (Hm.out _ (by show (ByteArray.mk #[]).size ≤ 1; decide)) _).mono ?_
          rintro e w1 ⟨rfl, hb⟩
          rw [H0.out]
          have Hb := Lib.hid hb
          obtain ⟨hc, hf⟩ := bcell hb
          clear hb
          go_wp2_with fail
          refine (ris_any ⟨a0, true, 0, 0, ⟨#[]⟩⟩ (Hm.out _ (by show (ByteArray.mk #[]).size ≤ 1; decide)) _).mono ?_
          rintro e w2 ⟨rfl, hb⟩
          rw [H0.out]
          have Hb2 := Lib.hid (bnext Hb.out hb)
          clear hb hc hf
          go_wp2_with fail
          refine (known_any _).mono ?_
          rintro e w3 ⟨rfl, hb⟩
          have Hb3 := Lib.hid (bnext Hb2.out hb)
          clear hb
          go_wp2_with fail
          go_ret
          exact ⟨rfl, (one_box w _).trans (Hb3.out.mono (by simp))⟩
        · go_enter Try.func10, Try.ntmps10
          go_wp2_with fail
          refine (vis_any ⟨a0, false, a2, 0, ⟨#[]⟩⟩ (Hm.out _ (by show (ByteArray.mk #[]).size ≤ 1; decide)) _).mono ?_
          rintro e w1 ⟨rfl, hb⟩
          rw [H1.out]
          have Hb := Lib.hid hb
          obtain ⟨hc, hf⟩ := bcell hb
          clear hb
          go_wp2_with fail
          refine (ris_any ⟨a0, false, a2, 0, ⟨#[]⟩⟩ (Hm.out _ (by show (ByteArray.mk #[]).size ≤ 1; decide)) _).mono ?_
          rintro e w2 ⟨rfl, hb⟩
          rw [H1.out]
          have Hb2 := Lib.hid (bnext Hb.out hb)
          clear hb hc hf
          go_wp2_with fail
          refine (known_any _).mono ?_
          rintro e w3 ⟨rfl, hb⟩
          have Hb3 := Lib.hid (bnext Hb2.out hb)
          clear hb
          go_wp2_with fail
          go_ret
          exact ⟨rfl, (one_box w _).trans (Hb3.out.mono (by simp))⟩
        · go_enter Try.func10, Try.ntmps10
          go_wp2_with fail
          refine (vis_any ⟨a0, false, 0, FloatKind.f64.nearest a2, ⟨#[]⟩⟩ (Hm.out _ (by show (ByteArray.mk #[]).size ≤ 1; decide)) _).mono ?_
          rintro e w1 ⟨rfl, hb⟩
          rw [H2.out]
          have Hb := Lib.hid hb
          obtain ⟨hc, hf⟩ := bcell hb
          clear hb
          go_wp2_with fail
          refine (ris_any ⟨a0, false, 0, FloatKind.f64.nearest a2, ⟨#[]⟩⟩ (Hm.out _ (by show (ByteArray.mk #[]).size ≤ 1; decide)) _).mono ?_
          rintro e w2 ⟨rfl, hb⟩
          rw [H2.out]
          have Hb2 := Lib.hid (bnext Hb.out hb)
          clear hb hc hf
          go_wp2_with fail
          refine (known_any _).mono ?_
          rintro e w3 ⟨rfl, hb⟩
          have Hb3 := Lib.hid (bnext Hb2.out hb)
          clear hb
          go_wp2_with fail
          go_ret
          exact ⟨rfl, (one_box w _).trans (Hb3.out.mono (by simp))⟩
        · go_enter Try.func10, Try.ntmps10
          go_wp2_with fail
          refine (vis_any ⟨a0, false, 0, 0, ⟨#[120]⟩⟩ (Hm.out _ (by show (ByteArray.mk #[120]).size ≤ 1; decide)) _).mono ?_
          rintro e w1 ⟨rfl, hb⟩
          rw [H3.out]
          have Hb := Lib.hid hb
          obtain ⟨hc, hf⟩ := bcell hb
          clear hb
          go_wp2_with fail
          refine (ris_any ⟨a0, false, 0, 0, ⟨#[120]⟩⟩ (Hm.out _ (by show (ByteArray.mk #[120]).size ≤ 1; decide)) _).mono ?_
          rintro e w2 ⟨rfl, hb⟩
          rw [H3.out]
          have Hb2 := Lib.hid (bnext Hb.out hb)
          clear hb hc hf
          go_wp2_with fail
          refine (known_any _).mono ?_
          rintro e w3 ⟨rfl, hb⟩
          have Hb3 := Lib.hid (bnext Hb2.out hb)
          clear hb
          go_wp2_with fail
          go_ret
          exact ⟨rfl, (one_box w _).trans (Hb3.out.mono (by simp))⟩

set_option maxRecDepth 100000 in
theorem lifted (os : Os) (started : os.Started) (H : Type) (enc : TypeId × Value → H) :
    ReturnsInHanded {} Try.checked os 10 .any (Rows.valueOddSpec.pre6 enc Try.prog Try.f10 Rows.valueOddRow.domain false) (Rows.valueOddSpec.post enc Try.prog Try.f10 false true false false) := by
  refine returnsInHanded_of_change (C := Try.checked) own started (by kernel_rfl) Try.func10
    (ChangeSpec.witness6 (enc := enc) (C := Try.checked) false ⟨#[], #[.int .i64 0, .int .i64 0, .int .i64 0], []⟩ 8 (by kernel_rfl) (by kernel_rfl) (by kernel_rfl) (by kernel_rfl)) ?_
  intro W base args ds gs before hval0 hW hcnd _
  have hval : ∀ (j : Nat) t v, Try.f10.params[j]? = some t → args[j]? = some v → Value.okWide Try.prog W .any base t v := hval0
  have hW' := hW
  obtain ⟨p, q, hA0, hV, rfl, hfz, hnd⟩ := hW
  have hA : DataW.TrodAll enc Try.prog W 0 (fun _ => true) true Try.f10.params.toList args.toList ds p := hA0
  rw [Try.params10] at hA hval
  obtain ⟨v0, vs0, d0, ds0, p0, q0, hargs, rfl, rfl, h0, r0⟩ := trodAll_cons hA
  obtain ⟨v1, vs1, d1, ds1, p1, q1, rfl, rfl, rfl, h1, r1⟩ := trodAll_cons r0
  obtain ⟨v2, vs2, d2, ds2, p2, q2, rfl, rfl, rfl, h2, r2⟩ := trodAll_cons r1
  obtain ⟨rfl, rfl, rfl⟩ := trodAll_nil r2
  obtain rfl : args = #[v0, v1, v2] := by cases args; simp_all
  obtain ⟨rfl, rfl⟩ := trodVars_none hV
  obtain ⟨a0, rfl, rfl, rfl, w0⟩ := open_int Try.underlying3 (hval 0 3 v0 rfl rfl) h0
  obtain ⟨a1, rfl, rfl, rfl, w1⟩ := open_int Try.underlying3 (hval 1 3 v1 rfl rfl) h1
  obtain ⟨a2, rfl, rfl, rfl, w2⟩ := open_int Try.underlying3 (hval 2 3 v2 rfl rfl) h2
  clear hA0 hval0
  refine (walk a0 a1 a2 W w0 w1 w2).mono fun e W' ⟨he, bel⟩ => ?_
  subst he
  exact ⟨_, rfl, _, _, _, [], _, [], hW', trodAll_mk1 (shut_bool Try.underlying4 _), (trodAll_cons_mk (shut_int Try.underlying3 w0) (trodAll_cons_mk (shut_int Try.underlying3 w1) (trodAll_cons_mk (shut_int Try.underlying3 w2) trodAll_mk0))), rfl, bel.frame _, fun h => by cases h⟩

theorem over : Rows.valueOddRow.holds Try.pinned (OpenSpec.ofChange Rows.valueOddSpec) :=
  OpenClaim.holds_of_wide 10 Try.f10 rfl rfl rfl rfl rfl rfl rfl ⟨rfl, rfl, rfl, rfl, rfl⟩ rfl rfl rfl rfl rfl (by kernel_rfl) Try.func10 (by kernel_rfl)
    (of_decide_eq_true (by kernel_rfl)) (by unfold Func.isWrapper; first | (rw [if_pos (by decide +kernel)]; kernel_rfl) | (rw [if_neg (by decide +kernel)]; exact ⟨rfl, rfl⟩))
    (fun os started H enc _ => lifted os started H enc)

theorem proved : Rows.ValueOddSaid := over
#print axioms proved
end Go.Proofs.Ytlaigelpkgakeaa.valueOdd
