/- Proved: ligaturelaw2.ValueTexts returns true for all strings s and t, and leaves its arguments as they were. No condition. -/
import Derived.Test.YtlaigelpkgakeaaRows
import Derived.Test.YtlaigelpkgakeaaVh
import Derived.Test.YtlaigelpkgakeaaVq
import Derived.WalkKit
import Derived.ProofKit
import Derived.OpenShut
import Derived.ShutString
import Derived.ChangeOld
import Derived.Below
namespace Go.Proofs.Ytlaigelpkgakeaa.valueTexts
open Fl (S IR nanB normN keyN NaNw cmpK)
open Val (cmpI cmpB cmpT ltT eqT V cmpV byteOk textOk blankB oddB isB plainB)
open Go.ChangeShapes Go.WideShapes Go.ChangeAt Go.RowKit
open Go.ChangeMaps (open_string shut_string)
set_option linter.unusedVariables false
theorem own : ownKnob Try.prog.godebug = none := by kernel_rfl
theorem laidOut : laidOutB Try.prog = true := by kernel_rfl
def tv (s : ByteArray) : V := ⟨4, false, 0, 0, s⟩
theorem tv_is (s : ByteArray) : isB (tv s) = plainB s := by
  unfold tv; rw [Val.isB4, show blankB ⟨4, false, 0, 0, ⟨#[]⟩⟩ = true from rfl]; rfl
theorem tv_f (s : ByteArray) : (tv s).f < 2 * S := by show 0 < 2 * S; decide
theorem tv_lt (s t : ByteArray) : decide (cmpV (tv s) (tv t) < 0) = Op.bytesLess s.toList t.toList := by
  have e : cmpV (tv s) (tv t) = cmpT s t := by simp [cmpV, tv]
  rw [e]
  cases h : Op.bytesLess s.toList t.toList
  · have h1 : ltT s t = false := h
    unfold cmpT; rw [h1]; cases eqT s t <;> rfl
  · rw [Val.cmpT_lo s t h]; rfl
theorem hts (s t : ByteArray) (hs : s.size ≤ maxLen) (ht : t.size ≤ maxLen) : ∀ x ∈ [tv s, tv t], x.t.size ≤ maxLen := by
  intro x hx; simp at hx; rcases hx with rfl | rfl
  · exact hs
  · exact ht
def okAt (s : ByteArray) (k : Nat) : Bool := decide (s.size ≤ 12) && textOk (s.data.toList.take k)
theorem okAt_succ (s : ByteArray) (k : Nat) (h : k < s.size) : okAt s (k + 1) = (okAt s k && byteOk s[k]) := by
  unfold okAt; rw [Val.textOk_take _ k (by rw [Val.size_data]; exact h), byte_at s k h, Bool.and_assoc]
theorem okAt_all (s : ByteArray) (k : Nat) (h : s.size ≤ k) : okAt s k = plainB s := by
  unfold okAt plainB; rw [List.take_of_length_le (by rw [Val.size_data]; exact h)]

set_option maxHeartbeats 2000000 in
theorem walk (a0 : ByteArray) (a1 : ByteArray) (w : World) (w0 : a0.size ≤ maxLen) (w1 : a1.size ≤ maxLen) :
    Calls Try.prog 8 #[.string a0, .string a1] w fun e w' => e = .returned (.bool true) ∧ Below w.heap.size w w' := by
  have Hts := Lib.hid (hts a0 a1 w0 w1)
  have Hw0 := Lib.hid w0
  have HR := Lib.hid (fun W g hg => vrow_new W g hg 24 [tv a0, tv a1] _ rfl)
  clear w0 w1
  by_cases h0 : a0.size ≤ 60
  · by_cases h1 : a1.size ≤ 60
    · go_enter Try.func8, Try.ntmps8
      have hq0 : decide (60 < a0.size) = false := by simp; omega
      have hq1 : decide (60 < a1.size) = false := by simp; omega
      go_wp2_with fail
      go_loop [7, 8] (fun o i => ∃ k : Nat, k ≤ a0.size ∧ i = .int .i64 k ∧ o = .bool (okAt a0 k)) (fun _ i => a0.size - (intOf i).toNat)
      case atStart => exact ⟨0, Nat.zero_le _, rfl, by simp [okAt, textOk]; omega⟩
      case round =>
        obtain ⟨k, hk, rfl, rfl⟩ := hrel
        by_cases hlt : k < a0.size
        · have HS := Lib.hid (okAt_succ a0 k hlt)
          cases ho : okAt a0 k
          · go_wp2_with fail
            go_round
            case rel => exact ⟨k + 1, by omega, by go_num, by rw [HS.out, ho]; rfl⟩
            case measure => simp [intOf]; omega
          · by_cases g1 : 32 ≤ a0[k].toNat
            · by_cases g2 : a0[k].toNat ≤ 126
              · have HB := Lib.hid (show byteOk a0[k] = true by simp [byteOk, g1, g2])
                go_wp2_with fail
                go_round
                case rel => exact ⟨k + 1, by omega, by go_num, by rw [HS.out, ho, HB.out]; simp; omega⟩
                case measure => simp [intOf]; omega
              · have HB := Lib.hid (show byteOk a0[k] = false by simp [byteOk, g1, g2])
                go_wp2_with fail
                go_round
                case rel => exact ⟨k + 1, by omega, by go_num, by rw [HS.out, ho, HB.out]; simp; omega⟩
                case measure => simp [intOf]; omega
            · have HB := Lib.hid (show byteOk a0[k] = false by simp [byteOk, g1])
              go_wp2_with fail
              go_round
              case rel => exact ⟨k + 1, by omega, by go_num, by rw [HS.out, ho, HB.out]; simp⟩
              case measure => simp [intOf]; omega
        · have HP := Lib.hid (okAt_all a0 k (by omega))
          have HI := Lib.hid (tv_is a0)
          have HL := Lib.hid (tv_lt a0 a1)
          obtain ⟨o, hoo⟩ : ∃ o, plainB a0 = o := ⟨_, rfl⟩
          have Hoo := Lib.hid hoo
          clear hoo
          have hok := HP.out.trans Hoo.out
          cases ha : allV [tv a0, tv a1] <;> cases hl : Op.bytesLess a0.toList a1.toList <;> cases o <;>
          · have hd := HL.out.trans hl
            go_wp2_with fail
            refine (vis_any (tv a0) Hw0.out _).mono ?_
            rintro e w1 ⟨rfl, hb⟩
            rw [HI.out, Hoo.out]
            have Hb := Lib.hid hb
            obtain ⟨hc, hf⟩ := bcell hb
            have hs := hb.size
            simp at hs
            have hz0 : w.heap.size < w1.heap.size := by omega
            have hz1 : w.heap.size + 1 < w1.heap.size := by omega
            clear hb hs
            go_wp2_with fail
            refine (may_any _ [tv a0, tv a1] _ _ (HR.out _ _ (by simp)) (by simp) Hts.out).mono ?_
            rintro e w2 ⟨rfl, hb⟩
            have Hb2 := Lib.hid ((Hb.out.trans ((one_box w1 _).mono Hb.out.size)).trans (hb.mono (Nat.le_trans Hb.out.size (by simp))))
            clear hb hc hf hz0 hz1
            obtain ⟨hc, hf⟩ := bcell Hb2.out
            go_wp2_with fail
            first
              | (refine (known_any _).mono ?_
                 rintro e w3 ⟨rfl, hb⟩
                 have Hb3 := Lib.hid (bnext Hb2.out hb)
                 clear hb
                 go_wp2_with fail
                 go_ret
                 exact ⟨rfl, (two_boxes w _ _).trans (Hb3.out.mono (by simp; omega))⟩)
              | (refine (vcmp_any (tv a0) (tv a1) (tv_f _) (tv_f _) _).mono ?_
                 rintro e w3 ⟨rfl, hb⟩
                 have Hb3 := Lib.hid (bnext Hb2.out hb)
                 clear hb hc hf
                 obtain ⟨hc, hf⟩ := bcell Hb3.out
                 go_wp2_with fail
                 refine (known_any _).mono ?_
                 rintro e w4 ⟨rfl, hb⟩
                 have Hb4 := Lib.hid (bnext Hb3.out hb)
                 clear hb
                 go_wp2_with fail
                 go_ret
                 exact ⟨rfl, (two_boxes w _ _).trans (Hb4.out.mono (by simp; omega))⟩)
    · have hq0 : decide (60 < a0.size) = false := by simp; omega
      have hq1 : decide (60 < a1.size) = true := by simp; omega
      go_enter Try.func8, Try.ntmps8
      go_wp2_with fail
      go_ret
      exact ⟨rfl, Below.refl _ _⟩
  · have hq0 : decide (60 < a0.size) = true := by simp; omega
    go_enter Try.func8, Try.ntmps8
    go_wp2_with fail
    go_ret
    exact ⟨rfl, Below.refl _ _⟩

set_option maxRecDepth 100000 in
theorem lifted (os : Os) (started : os.Started) (H : Type) (enc : TypeId × Value → H) :
    ReturnsInHanded {} Try.checked os 8 .any (Rows.valueTextsSpec.pre6 enc Try.prog Try.f8 Rows.valueTextsRow.domain false) (Rows.valueTextsSpec.post enc Try.prog Try.f8 false true false false) := by
  refine returnsInHanded_of_change (C := Try.checked) own started (by kernel_rfl) Try.func8
    (ChangeSpec.witness6 (enc := enc) (C := Try.checked) false ⟨#[], #[.string ByteArray.empty, .string ByteArray.empty], []⟩ 8 (by kernel_rfl) (by kernel_rfl) (by kernel_rfl) (by kernel_rfl)) ?_
  intro W base args ds gs before hval0 hW hcnd _
  have hval : ∀ (j : Nat) t v, Try.f8.params[j]? = some t → args[j]? = some v → Value.okWide Try.prog W .any base t v := hval0
  have hW' := hW
  obtain ⟨p, q, hA0, hV, rfl, hfz, hnd⟩ := hW
  have hA : DataW.TrodAll enc Try.prog W 0 (fun _ => true) true Try.f8.params.toList args.toList ds p := hA0
  rw [Try.params8] at hA hval
  obtain ⟨v0, vs0, d0, ds0, p0, q0, hargs, rfl, rfl, h0, r0⟩ := trodAll_cons hA
  obtain ⟨v1, vs1, d1, ds1, p1, q1, rfl, rfl, rfl, h1, r1⟩ := trodAll_cons r0
  obtain ⟨rfl, rfl, rfl⟩ := trodAll_nil r1
  obtain rfl : args = #[v0, v1] := by cases args; simp_all
  obtain ⟨rfl, rfl⟩ := trodVars_none hV
  obtain ⟨a0, rfl, rfl, rfl, w0⟩ := open_string Try.underlying9 (hval 0 9 v0 rfl rfl) h0
  obtain ⟨a1, rfl, rfl, rfl, w1⟩ := open_string Try.underlying9 (hval 1 9 v1 rfl rfl) h1
  clear hA0 hval0
  refine (walk a0 a1 W w0 w1).mono fun e W' ⟨he, bel⟩ => ?_
  subst he
  exact ⟨_, rfl, _, _, _, [], _, [], hW', trodAll_mk1 (shut_bool Try.underlying4 _), (trodAll_cons_mk (shut_string Try.underlying9 w0) (trodAll_cons_mk (shut_string Try.underlying9 w1) trodAll_mk0)), rfl, bel.frame _, fun h => by cases h⟩

theorem over : Rows.valueTextsRow.holds Try.pinned (OpenSpec.ofChange Rows.valueTextsSpec) :=
  OpenClaim.holds_of_wide 8 Try.f8 rfl rfl rfl rfl rfl rfl rfl ⟨rfl, rfl, rfl, rfl, rfl⟩ rfl rfl rfl rfl rfl (by kernel_rfl) Try.func8 (by kernel_rfl)
    (of_decide_eq_true (by kernel_rfl)) (by unfold Func.isWrapper; first | (rw [if_pos (by decide +kernel)]; kernel_rfl) | (rw [if_neg (by decide +kernel)]; exact ⟨rfl, rfl⟩))
    (fun os started H enc _ => lifted os started H enc)

theorem proved : Rows.ValueTextsSaid := over
#print axioms proved
end Go.Proofs.Ytlaigelpkgakeaa.valueTexts
