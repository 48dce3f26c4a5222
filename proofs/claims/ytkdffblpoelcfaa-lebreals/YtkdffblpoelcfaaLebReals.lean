/- Proved: ligaturelaw3.LebReals returns true for every slice of bytes, and leaves its argument as it was. No condition. -/
import Derived.Test.YtkdffblpoelcfaaRows
import Derived.Test.YtkdffblpoelcfaaLo
import Derived.Test.YtkdffblpoelcfaaLg
import Derived.Deep.RegionWith
import Derived.WalkKit
import Derived.ProofKit
import Derived.OpenShut
import Derived.ShutString
import Derived.ChangeOld
import Derived.Below
namespace Go.Proofs.Ytkdffblpoelcfaa.lebReals
open Lb
open Fl (S IR nanB normN keyN NaNw cmpK unkN ofB)
open Go.ChangeShapes Go.WideShapes Go.ChangeAt Go.RowKit
open Go.ChangeMaps (open_string shut_string)
set_option linter.unusedVariables false
theorem own : ownKnob Try.prog.godebug = none := by kernel_rfl
theorem laidOut : laidOutB Try.prog = true := by kernel_rfl

set_option maxHeartbeats 2000000 in
set_option maxRecDepth 100000 in
theorem walk (a0 : Sl UInt8) (w : World) (w0 : SlB w a0) :
    Calls Try.prog 9 #[slv a0] w fun e w' => e = .returned (.bool true) ∧ Below w.heap.size w w' := by
  obtain ⟨A, l, c⟩ := a0
  have H0 : Hid (BS w A l c) := w0
  clear w0
  unfold slv
  simp only
  by_cases hbig : l.length = 8
  · have hle : l.length ≤ 8 := by omega
    have hn8 : ((l.length : Int) != 8) = false := by simp; omega
    have H8 := Lib.hid hbig
    clear hbig
    go_enter Try.func9, Try.ntmps9
    go_wp2_with fail
    refine (open_any A l c w H0.out (by omega)).mono ?_
    rintro e w1 ⟨a, g, rfl, hcur, hbel, ha, hg⟩
    obtain ⟨g', hcur', hg'⟩ := cur_arg 42 H0.out hbel (show l.length ≤ 1000000 by omega)
    have hlt := hcur.1
    have hcur2 := hcur.below ((Below.refl w1.heap.size w1).alloc (Nat.le_refl _) (.cells #[.slice A l.length c, .bool false] 42))
    have hbel2 := hbel.alloc hbel.size (.cells #[.slice A l.length c, .bool false] 42)
    have hs1 := hbel.size
    have HB2 := Lib.hid hbel2
    have HC2 := Lib.hid hcur2
    have HR2 := Lib.hid hcur'
    have Hg := Lib.hid hg
    have Hg' := Lib.hid hg'
    clear hbel2 hcur2 hcur' hcur hbel hg hg'
    go_wp2_with fail
    refine (creal_any a g _ _ HC2.out).mono ?_
    rintro e w3 ⟨rfl, hc3, hgr3⟩
    have HR3 := Lib.hid (HR2.out.kept hgr3 (by intro e; injection e with e; omega) (.inr (fun e => by have := Hg'.out a e; omega)))
    have HB3 := Lib.hid (below_grown HB2.out hgr3 (Nat.le_refl _) ha)
    have HC3 := Lib.hid hc3
    clear hc3 hgr3
    go_wp2_with fail
    refine (rcreal_any w1.heap.size g' _ _ HR3.out).mono ?_
    rintro e w4 ⟨rfl, hc4, hgr4⟩
    have HC4 := Lib.hid (HC3.out.kept hgr4 (by intro e; injection e with e; omega) (.inr (fun e => by have := Hg.out _ e; omega)))
    have HB4 := Lib.hid (below_grown HB3.out hgr4 (Nat.le_refl _) hs1)
    clear hgr4
    have e8 : l.take 8 = l := List.take_of_length_le (by omega)
    cases ho : ofB (be l) with
    | false =>
      have hk : okR l = false := by simp [okR, e8, ho]
      have hn : nxtR (some l) = none ∧ resR (some l) = 0 := by simp [nxtR, resR, hk]
      rw [hn.1] at hc4 HC4
      rw [hn.2]
      obtain ⟨h1, h2, h3, h4, k1, k2⟩ := hc4
      have hf0 : (FloatKind.f64.format.order 0 0 == some Ordering.eq) = true := by decide +kernel
      clear hn hk ho e8 k1 h3 h4 h2
      go_wp2_with fail
      refine (good_any a g _ _ HC4.out).mono ?_
      rintro e w' ⟨rfl, rfl⟩
      go_wp2_with fail
      refine (known_any _).mono ?_
      rintro e w5 ⟨rfl, hb5⟩
      go_wp2_with fail
      go_ret
      exact ⟨rfl, HB4.out.trans (hb5.mono HB4.out.size)⟩
    | true =>
      have hk : okR l = true := by simp [okR, e8, ho]; have := H8.out; omega
      have hn : nxtR (some l) = some [] ∧ resR (some l) = unkN (be l) := by simp [nxtR, resR, hk, e8]; have := H8.out; omega
      rw [hn.1] at hc4 HC4
      rw [hn.2]
      obtain ⟨h1, h2, h3, h4, A', c', k1, k2, k3, k4, k5⟩ := hc4
      have Hlt := Lib.hid (Fl.unkN_lt (be l) (be_lt8 l H8.out))
      have Henc := Lib.hid (show encR (unkN (be l)) = l by
        unfold encR
        rw [show keyN (unkN (be l)) = be l from beq_iff_eq.1 ho]
        exact keyB_be l H8.out)
      clear hn hk ho e8 k1 k3 k4 k5 h3 h4 h2
      generalize unkN (be l) = f at *
      have HD := Lib.hid ((Below.refl w4.heap.size w4).drew)
      have HD2 := Lib.hid (((Below.refl w4.heap.size w4).alloc (Nat.le_refl _) (.cells #[.float .f64 f] 29)).drew)
      have HW : Hid (Calls Try.prog 27 #[.pointer (some ⟨a, 0, none⟩)] w4.drew fun e w' => e = .returned (.bool true) ∧ w4.drew = w') := whole_any a g _ _ (HC4.out.below HD.out)
      have HBS := Lib.hid (H0.out.below HB4.out)
      have hcvA := (HBS.out.below HD.out).conv l.length rfl
      have hcvB := (HBS.out.below HD2.out).conv l.length rfl
      have HRow : Hid (Row (.float .f64) (w4.alloc (.cells #[.float .f64 f] 29)).drew (some ⟨w4.heap.size, 0, none⟩) [f]) := row_new (.float .f64) w4 29 [f] #[.float .f64 f] rfl
      have Hq : Hid (((bstr l).toList == (bstr l).toList) = true) := by show _ = _; simp
      have Hnil : Hid (∀ W, BS W none [] 0) := fun W => ⟨fun i hi => absurd hi (by simp), by simp, fun _ => rfl⟩
      have He2 := Lib.hid (show [] ++ encRs [f] = l by simp [encRs, Henc.out])
      go_wp2_with fail
      go_region_with ((first
        | (go_at_call 27; refine HW.out.mono ?_; rintro e w' ⟨rfl, rfl⟩)
        | (go_at_call 16; refine (real_any none [] 0 _ [f] 1 _ (Hnil.out _) HRow.out (by simpa using Hlt.out) (by simp) (by simp)).mono ?_; rintro e w6 ⟨v6, rfl, hown6, hbel6⟩; rw [He2.out] at hown6; obtain ⟨A6, c6, rfl, hbs6, _⟩ := hown6.open; have hcv6 := hbs6.conv l.length rfl; have HB6 := Lib.hid (HD2.out.trans (hbel6.mono (by simp))); have hcvC := (HBS.out.below HB6.out).conv l.length rfl)
        | (go_at_call 17; refine (known_any _).mono ?_; rintro e w7 ⟨rfl, hbel7⟩)))
      all_goals
        go_wp2_with fail
        go_ret
        exact ⟨rfl, bnext HB4.out (bnext HB6.out hbel7)⟩
  · have hn8 : ((l.length : Int) != 8) = true := by simp; omega
    clear hbig
    go_enter Try.func9, Try.ntmps9
    go_wp2
    go_ret
    exact ⟨rfl, Below.refl _ _⟩

set_option maxRecDepth 100000 in
theorem lifted (os : Os) (started : os.Started) (H : Type) (enc : TypeId × Value → H) :
    ReturnsInHanded {} Try.checked os 9 .any (Rows.lebRealsSpec.pre6 enc Try.prog Try.f9 Rows.lebRealsRow.domain false) (Rows.lebRealsSpec.post enc Try.prog Try.f9 false true false false) := by
  refine returnsInHanded_of_change (C := Try.checked) own started (by kernel_rfl) Try.func9
    (ChangeSpec.witness6 (enc := enc) (C := Try.checked) false ⟨#[], #[.slice none 0 0], []⟩ 8 (by kernel_rfl) (by kernel_rfl) (by kernel_rfl) (by kernel_rfl)) ?_
  intro W base args ds gs before hval0 hW hcnd _
  have hval : ∀ (j : Nat) t v, Try.f9.params[j]? = some t → args[j]? = some v → Value.okWide Try.prog W .any base t v := hval0
  have hW' := hW
  obtain ⟨p, q, hA0, hV, rfl, hfz, hnd⟩ := hW
  have hA : DataW.TrodAll enc Try.prog W 0 (fun _ => true) true Try.f9.params.toList args.toList ds p := hA0
  rw [Try.params9] at hA hval
  obtain ⟨v0, vs0, d0, ds0, p0, q0, hargs, rfl, rfl, h0, r0⟩ := trodAll_cons hA
  obtain ⟨rfl, rfl, rfl⟩ := trodAll_nil r0
  obtain rfl : args = #[v0] := by cases args; simp_all
  obtain ⟨rfl, rfl⟩ := trodVars_none hV
  have k0 := h0
  have lt0 : ∀ x ∈ p0, x.block < W.heap.size := by obtain ⟨m, hm⟩ := k0; exact DataW.trod_lt m _ _ _ hm
  obtain ⟨a0, rfl, w0⟩ := open_bytes (hval 0 22 v0 rfl rfl) h0
  clear hA0 hval0
  refine (walk a0 W w0).mono fun e W' ⟨he, bel⟩ => ?_
  subst he
  exact ⟨_, rfl, _, _, _, [], _, [], hW', trodAll_mk1 (shut_bool Try.underlying4 _), (trodAll_cons_mk (Below.trod laidOut (by kernel_rfl) (of_decide_eq_true (by kernel_rfl)) k0 bel lt0) trodAll_mk0), rfl, bel.frame _, fun h => by cases h⟩

theorem over : Rows.lebRealsRow.holds Try.pinned (OpenSpec.ofChange Rows.lebRealsSpec) :=
  OpenClaim.holds_of_wide 9 Try.f9 rfl rfl rfl rfl rfl rfl rfl ⟨rfl, rfl, rfl, rfl, rfl⟩ rfl rfl rfl rfl rfl (by kernel_rfl) Try.func9 (by kernel_rfl)
    (of_decide_eq_true (by kernel_rfl)) (by unfold Func.isWrapper; first | (rw [if_pos (by decide +kernel)]; kernel_rfl) | (rw [if_neg (by decide +kernel)]; exact ⟨rfl, rfl⟩))
    (fun os started H enc _ => lifted os started H enc)

theorem proved : Rows.LebRealsSaid := over
#print axioms proved
end Go.Proofs.Ytkdffblpoelcfaa.lebReals
