/- Proved: ligaturelaw2.ValueReals returns true for all uint64 a and b, and leaves its arguments as they were. No condition. -/
import Derived.Test.YtlaigelpkgakeaaRows
import Derived.Test.YtlaigelpkgakeaaVh
import Derived.WalkKit
import Derived.ProofKit
import Derived.OpenShut
import Derived.ShutString
import Derived.ChangeOld
import Derived.Below
namespace Go.Proofs.Ytlaigelpkgakeaa.valueReals
open Fl (S IR nanB normN keyN NaNw cmpK)
open Val (cmpI cmpB cmpT ltT eqT V cmpV byteOk textOk blankB oddB isB plainB)
open Go.ChangeShapes Go.WideShapes Go.ChangeAt Go.RowKit
open Go.ChangeMaps (open_string shut_string)
set_option linter.unusedVariables false
theorem own : ownKnob Try.prog.godebug = none := by kernel_rfl
theorem laidOut : laidOutB Try.prog = true := by kernel_rfl
def rv (a : Nat) : V := ⟨3, false, 0, a, ⟨#[]⟩⟩
theorem rv_is (a : Nat) : isB (rv a) = (normN a == a) := by
  unfold rv; rw [Val.isB3, show blankB ⟨3, false, 0, 0, ⟨#[]⟩⟩ = true from rfl]; rfl
theorem rv_t (a : Nat) : (rv a).t.size ≤ maxLen := by show 0 ≤ maxLen; omega
theorem rv_f {a : Nat} (h : a < 2 * S) : (rv a).f < 2 * S := h
theorem rv_one (a : Nat) : isB (rv a) = (!nanB a || a == NaNw) := by
  rw [rv_is]; unfold normN
  cases nanB a
  · simp
  · simp; rw [Bool.eq_iff_iff]; simp; exact eq_comm
theorem rv_same (a b : Nat) (ha : a < 2 * S) (hb : b < 2 * S) (h : allV [rv a, rv b] = true) : sameV (rv a) (rv b) = ((a : Int) == (b : Int)) := by
  rw [allV_2, rv_is, rv_is] at h
  simp at h
  obtain ⟨h1, h2⟩ := h
  have e : cmpV (rv a) (rv b) = cmpK (keyN a) (keyN b) := by simp [cmpV, rv]
  unfold sameV; rw [e, Bool.eq_iff_iff]
  simp
  unfold cmpK keyN
  rw [h1, h2]
  split <;> split <;> (try split) <;> (try split) <;> omega
theorem hts (a b : Nat) : ∀ x ∈ [rv a, rv b], x.t.size ≤ maxLen := by
  intro x hx; simp at hx; rcases hx with rfl | rfl <;> exact rv_t _

set_option maxHeartbeats 1000000 in
theorem walk (a0 : Int) (a1 : Int) (w : World) (w0 : (Lit.int .u64 a0).wf = true) (w1 : (Lit.int .u64 a1).wf = true) :
    Calls Try.prog 6 #[.int .u64 a0, .int .u64 a1] w fun e w' => e = .returned (.bool true) ∧ Below w.heap.size w w' := by
  obtain ⟨n, rfl, hn⟩ := u64_nat w0
  obtain ⟨m, rfl, hm⟩ := u64_nat w1
  have Hn := Lib.hid hn
  have Hm := Lib.hid hm
  clear hn hm w0 w1
  have H1 := Lib.hid (rv_one n)
  have HR := Lib.hid (fun W g hg => vrow_new W g hg 24 [rv n, rv m] _ rfl)
  have hq : ∀ o, (isB (rv n) = o) → (!nanB n || n == NaNw) = o := fun o h => by rw [← H1.out]; exact h
  have Hq := Lib.hid hq
  clear hq
  obtain ⟨o, ho⟩ : ∃ o, isB (rv n) = o := ⟨_, rfl⟩
  have ho2 := Hq.out o ho
  have hN : ∀ p q : Bool, nanB n = p → ((n : Int) == 9221120237041090560) = q → (!p || q) = o := by
    intro p q hp hq
    rw [← ho2, ← hp, ← hq]; congr 1
    rw [Bool.eq_iff_iff]; simp [NaNw]; omega
  have HN := Lib.hid hN
  have Ho := Lib.hid ho
  clear ho ho2 hN
  cases h1 : nanB n <;> cases h2 : ((n : Int) == 9221120237041090560) <;> cases ha : allV [rv n, rv m] <;>
  · have e := HN.out _ _ h1 h2
    simp at e
    subst e
    have hs := rv_same n m Hn.out Hm.out
    have Hs := Lib.hid hs
    clear hs
    have hE : (FloatKind.f64.format.order n n == some Ordering.eq) = !nanB n := by unfold nanB; simp [bne]
    rw [h1] at hE
    simp only [Bool.not_true, Bool.not_false] at hE
    clear h1
    go_enter Try.func6, Try.ntmps6
    go_wp2_with fail
    refine (vis_any (rv n) (rv_t _) _).mono ?_
    rintro e w1 ⟨rfl, hb⟩
    rw [Ho.out]
    have Hb := Lib.hid hb
    obtain ⟨hc, hf⟩ := bcell hb
    have hs := hb.size
    simp at hs
    have hz0 : w.heap.size < w1.heap.size := by omega
    have hz1 : w.heap.size + 1 < w1.heap.size := by omega
    clear hb hs
    go_wp2_with fail
    refine (may_any _ [rv n, rv m] _ _ (HR.out _ _ (by simp)) (by simp) (hts n m)).mono ?_
    rintro e w2 ⟨rfl, hb⟩
    have Hb2 := Lib.hid ((Hb.out.trans ((one_box w1 _).mono Hb.out.size)).trans (hb.mono (Nat.le_trans Hb.out.size (by simp))))
    clear hb hc hf hz0 hz1
    obtain ⟨hc, hf⟩ := bcell Hb2.out
    have hs := Hb2.out.size
    simp at hs
    have hz0 : w.heap.size < w2.heap.size := by omega
    have hz1 : w.heap.size + 1 < w2.heap.size := by omega
    clear hs
    go_wp2_with fail
    first
      | (refine (known_any _).mono ?_
         rintro e w3 ⟨rfl, hb⟩
         have Hb3 := Lib.hid (bnext Hb2.out hb)
         clear hb
         go_wp2_with fail
         go_ret
         exact ⟨rfl, (two_boxes w _ _).trans (Hb3.out.mono (by simp; omega))⟩)
      | (have Hse := Lib.hid (Hs.out ha)
         go_region_held3 (fun w' => Below w2.heap.size w2 w' ∧ ∀ b o, b < w2.heap.size → w'.cell? ⟨b, o, none⟩ = w2.cell? ⟨b, o, none⟩)
           (first | exact held0 _ | exact held1 hb (by assumption))
           (first
             | (go_at_call 15; refine (vcmp_any (rv n) (rv m) Hn.out Hm.out _).mono ?_; rintro e w3 ⟨rfl, hb⟩)
             | (go_at_call 16; refine (rvcmp_any (rv n) (rv m) Hn.out Hm.out _).mono ?_; rintro e w4 ⟨rfl, hb⟩)
             | (go_at_call 17; refine (vsame_any (rv n) (rv m) Hn.out Hm.out _).mono ?_; rintro e w5 ⟨rfl, hb⟩; rw [Hse.out])
             | (go_at_call 14; refine (known_any _).mono ?_; rintro e w6 ⟨rfl, hb⟩))
         all_goals
           have HB := Lib.hid (held2 ((two_boxes w _ _).trans (Hb2.out.mono (by simp; omega))) (by assumption))
           go_wp2_with fail
           go_ret
           exact ⟨rfl, HB.out⟩)

set_option maxRecDepth 100000 in
theorem lifted (os : Os) (started : os.Started) (H : Type) (enc : TypeId × Value → H) :
    ReturnsInHanded {} Try.checked os 6 .any (Rows.valueRealsSpec.pre6 enc Try.prog Try.f6 Rows.valueRealsRow.domain false) (Rows.valueRealsSpec.post enc Try.prog Try.f6 false true false false) := by
  refine returnsInHanded_of_change (C := Try.checked) own started (by kernel_rfl) Try.func6
    (ChangeSpec.witness6 (enc := enc) (C := Try.checked) false ⟨#[], #[.int .u64 0, .int .u64 0], []⟩ 8 (by kernel_rfl) (by kernel_rfl) (by kernel_rfl) (by kernel_rfl)) ?_
  intro W base args ds gs before hval0 hW hcnd _
  have hval : ∀ (j : Nat) t v, Try.f6.params[j]? = some t → args[j]? = some v → Value.okWide Try.prog W .any base t v := hval0
  have hW' := hW
  obtain ⟨p, q, hA0, hV, rfl, hfz, hnd⟩ := hW
  have hA : DataW.TrodAll enc Try.prog W 0 (fun _ => true) true Try.f6.params.toList args.toList ds p := hA0
  rw [Try.params6] at hA hval
  obtain ⟨v0, vs0, d0, ds0, p0, q0, hargs, rfl, rfl, h0, r0⟩ := trodAll_cons hA
  obtain ⟨v1, vs1, d1, ds1, p1, q1, rfl, rfl, rfl, h1, r1⟩ := trodAll_cons r0
  obtain ⟨rfl, rfl, rfl⟩ := trodAll_nil r1
  obtain rfl : args = #[v0, v1] := by cases args; simp_all
  obtain ⟨rfl, rfl⟩ := trodVars_none hV
  obtain ⟨a0, rfl, rfl, rfl, w0⟩ := open_int Try.underlying31 (hval 0 31 v0 rfl rfl) h0
  obtain ⟨a1, rfl, rfl, rfl, w1⟩ := open_int Try.underlying31 (hval 1 31 v1 rfl rfl) h1
  clear hA0 hval0
  refine (walk a0 a1 W w0 w1).mono fun e W' ⟨he, bel⟩ => ?_
  subst he
  exact ⟨_, rfl, _, _, _, [], _, [], hW', trodAll_mk1 (shut_bool Try.underlying4 _), (trodAll_cons_mk (shut_int Try.underlying31 w0) (trodAll_cons_mk (shut_int Try.underlying31 w1) trodAll_mk0)), rfl, bel.frame _, fun h => by cases h⟩

theorem over : Rows.valueRealsRow.holds Try.pinned (OpenSpec.ofChange Rows.valueRealsSpec) :=
  OpenClaim.holds_of_wide 6 Try.f6 rfl rfl rfl rfl rfl rfl rfl ⟨rfl, rfl, rfl, rfl, rfl⟩ rfl rfl rfl rfl rfl (by kernel_rfl) Try.func6 (by kernel_rfl)
    (of_decide_eq_true (by kernel_rfl)) (by unfold Func.isWrapper; first | (rw [if_pos (by decide +kernel)]; kernel_rfl) | (rw [if_neg (by decide +kernel)]; exact ⟨rfl, rfl⟩))
    (fun os started H enc _ => lifted os started H enc)

theorem proved : Rows.ValueRealsSaid := over
#print axioms proved
end Go.Proofs.Ytlaigelpkgakeaa.valueReals
