/- Proved: ligaturelaw2.ValueInts returns true for all ints a, b and c, and leaves its arguments as they were. No condition. -/
import Derived.Test.YtlaigelpkgakeaaRows
import Derived.Test.YtlaigelpkgakeaaVo
import Derived.WalkKit
import Derived.ProofKit
import Derived.OpenShut
import Derived.ShutString
import Derived.ChangeOld
import Derived.Below
namespace Go.Proofs.Ytlaigelpkgakeaa.valueInts
open Fl (S IR nanB normN keyN NaNw cmpK)
open Val (cmpI cmpB cmpT ltT eqT V cmpV byteOk textOk blankB oddB isB plainB)
open Go.ChangeShapes Go.WideShapes Go.ChangeAt Go.RowKit
open Go.ChangeMaps (open_string shut_string)
set_option linter.unusedVariables false
theorem own : ownKnob Try.prog.godebug = none := by kernel_rfl
theorem laidOut : laidOutB Try.prog = true := by kernel_rfl
def iv (a : Int) : V := ⟨2, false, a, 0, ⟨#[]⟩⟩
theorem iv_is (a : Int) : isB (iv a) = true := by unfold iv; rw [Val.isB2]; decide +kernel
theorem iv_cmp (a b : Int) : cmpV (iv a) (iv b) = cmpI a b := by simp [cmpV, iv]
theorem iv_f (a : Int) : (iv a).f < 2 * S := by show 0 < 2 * S; decide
theorem iv_t (a : Int) : (iv a).t.size ≤ maxLen := by show 0 ≤ maxLen; omega
set_option maxHeartbeats 400000 in
theorem core (a b c : Int) (x : Int) (s : Bool) (i l g : Bool) (hx : cmpV (iv a) (iv b) = x) (hs : sameV (iv a) (iv b) = s) (hi : inV (iv a) (iv b) (iv c) = i)
    (e1 : decide (a < b) = l) (e2 : decide (x < 0) = l) (e3 : (a == b) = s) (e4 : decide (b ≤ a) = g) (e5 : (g && decide (a ≤ c)) = i) (w : World) :
    Calls Try.prog 9 #[.int .i64 a, .int .i64 b, .int .i64 c] w fun e w' => e = .returned (.bool true) ∧ Below w.heap.size w w' := by
  have Hi := Lib.hid (iv_is a)
  have Hx := Lib.hid hx
  have Hs := Lib.hid hs
  have HI := Lib.hid hi
  have H5 := Lib.hid e5
  clear hx hs hi e5
  cases g <;> cases hac : decide (a ≤ c) <;> rw [hac] at H5 <;>
  · go_enter Try.func9, Try.ntmps9
    go_wp2_with fail
    refine (vis_any (iv a) (iv_t _) _).mono ?_
    rintro e w1 ⟨rfl, hb⟩
    rw [Hi.out]
    have Hb := Lib.hid hb
    obtain ⟨hc, hf⟩ := bcell hb
    clear hb
    go_wp2_with fail
    refine (vcmp_any (iv a) (iv b) (iv_f _) (iv_f _) _).mono ?_
    rintro e w2 ⟨rfl, hb⟩
    rw [Hx.out]
    have Hb2 := Lib.hid (bnext Hb.out hb)
    clear hb hc hf
    obtain ⟨hc, hf⟩ := bcell Hb2.out
    go_wp2_with fail
    refine (vsame_any (iv a) (iv b) (iv_f _) (iv_f _) _).mono ?_
    rintro e w3 ⟨rfl, hb⟩
    rw [Hs.out]
    have Hb3 := Lib.hid (bnext Hb2.out hb)
    clear hb hc hf
    obtain ⟨hc, hf⟩ := bcell Hb3.out
    go_wp2_with fail
    refine (vin_any (iv a) (iv b) (iv c) (iv_f _) (iv_f _) (iv_f _) _).mono ?_
    rintro e w4 ⟨rfl, hb⟩
    rw [HI.out, ← H5.out]
    have Hb4 := Lib.hid (bnext Hb3.out hb)
    clear hb hc hf
    obtain ⟨hc, hf⟩ := bcell Hb4.out
    go_wp2_with fail
    refine (known_any _).mono ?_
    rintro e w5 ⟨rfl, hb⟩
    have Hb5 := Lib.hid (bnext Hb4.out hb)
    clear hb hc hf
    go_wp2_with fail
    go_ret
    exact ⟨rfl, (three_boxes w _ _ _).trans (Hb5.out.mono (by simp; omega))⟩

theorem walk (a0 : Int) (a1 : Int) (a2 : Int) (w : World) (w0 : (Lit.int .i64 a0).wf = true) (w1 : (Lit.int .i64 a1).wf = true) (w2 : (Lit.int .i64 a2).wf = true) :
    Calls Try.prog 9 #[.int .i64 a0, .int .i64 a1, .int .i64 a2] w fun e w' => e = .returned (.bool true) ∧ Below w.heap.size w w' := by
  refine core a0 a1 a2 _ _ _ _ _ rfl rfl rfl rfl ?_ ?_ rfl ?_ w
  · rw [iv_cmp]; unfold cmpI; by_cases h : a0 < a1 <;> simp [h]; split <;> decide
  · unfold sameV; rw [iv_cmp, Bool.eq_iff_iff]; simp; unfold cmpI; split <;> (try split) <;> omega
  · unfold inV; rw [iv_cmp, iv_cmp, Bool.eq_iff_iff]; simp; unfold cmpI; split <;> (try split) <;> (try split) <;> (try split) <;> omega

set_option maxRecDepth 100000 in
theorem lifted (os : Os) (started : os.Started) (H : Type) (enc : TypeId × Value → H) :
    ReturnsInHanded {} Try.checked os 9 .any (Rows.valueIntsSpec.pre6 enc Try.prog Try.f9 Rows.valueIntsRow.domain false) (Rows.valueIntsSpec.post enc Try.prog Try.f9 false true false false) := by
  refine returnsInHanded_of_change (C := Try.checked) own started (by kernel_rfl) Try.func9
    (ChangeSpec.witness6 (enc := enc) (C := Try.checked) false ⟨#[], #[.int .i64 0, .int .i64 0, .int .i64 0], []⟩ 8 (by kernel_rfl) (by kernel_rfl) (by kernel_rfl) (by kernel_rfl)) ?_
  intro W base args ds gs before hval0 hW hcnd _
  have hval : ∀ (j : Nat) t v, Try.f9.params[j]? = some t → args[j]? = some v → Value.okWide Try.prog W .any base t v := hval0
  have hW' := hW
  obtain ⟨p, q, hA0, hV, rfl, hfz, hnd⟩ := hW
  have hA : DataW.TrodAll enc Try.prog W 0 (fun _ => true) true Try.f9.params.toList args.toList ds p := hA0
  rw [Try.params9] at hA hval
  obtain ⟨v0, vs0, d0, ds0, p0, q0, hargs, rfl, rfl, h0, r0⟩ := trodAll_cons hA
  obtain ⟨v1, vs1, d1, ds1, p1, q1, rfl, rfl, rfl, h1, r1⟩ := trodAll_cons r0
  obtain ⟨v2, vs2, d2, ds2, p2, q2, rfl, rfl, rfl, h2, r2⟩ := trodAll_cons r1
  obtain ⟨rfl, rfl, rfl⟩ := trodAll_nil r2
  obtain rfl : args = #[v0, v1, v2] := by cases args; simp_all
  obtain ⟨rfl, rfl⟩ := trodVars_none hV
  obtain ⟨a0, rfl, rfl, rfl, w0⟩ := open_int Try.underlying3 (hval 0 3 v0 rfl rfl) h0
  obtain ⟨a1, rfl, rfl, rfl, w1⟩ := open_int Try.underlying3 (hval 1 3 v1 rfl rfl) h1
  obtain ⟨a2, rfl, rfl, rfl, w2⟩ := open_int Try.underlying3 (hval 2 3 v2 rfl rfl) h2
  clear hA0 hval0
  refine (walk a0 a1 a2 W w0 w1 w2).mono fun e W' ⟨he, bel⟩ => ?_
  subst he
  exact ⟨_, rfl, _, _, _, [], _, [], hW', trodAll_mk1 (shut_bool Try.underlying4 _), (trodAll_cons_mk (shut_int Try.underlying3 w0) (trodAll_cons_mk (shut_int Try.underlying3 w1) (trodAll_cons_mk (shut_int Try.underlying3 w2) trodAll_mk0))), rfl, bel.frame _, fun h => by cases h⟩

theorem over : Rows.valueIntsRow.holds Try.pinned (OpenSpec.ofChange Rows.valueIntsSpec) :=
  OpenClaim.holds_of_wide 9 Try.f9 rfl rfl rfl rfl rfl rfl rfl ⟨rfl, rfl, rfl, rfl, rfl⟩ rfl rfl rfl rfl rfl (by kernel_rfl) Try.func9 (by kernel_rfl)
    (of_decide_eq_true (by kernel_rfl)) (by unfold Func.isWrapper; first | (rw [if_pos (by decide +kernel)]; kernel_rfl) | (rw [if_neg (by decide +kernel)]; exact ⟨rfl, rfl⟩))
    (fun os started H enc _ => lifted os started H enc)

theorem proved : Rows.ValueIntsSaid := over
#print axioms proved
end Go.Proofs.Ytlaigelpkgakeaa.valueInts
