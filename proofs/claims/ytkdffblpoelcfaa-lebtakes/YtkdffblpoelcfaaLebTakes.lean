/- Proved: ligaturelaw3.LebTakes returns true for every slice of bytes and every list of integers, and leaves its arguments as they were. No condition. -/
import Derived.Test.YtkdffblpoelcfaaRows
import Derived.Test.YtkdffblpoelcfaaLo
import Derived.Test.YtkdffblpoelcfaaLg
import Derived.BigQuiet
import Derived.Deep.QuietTactic
import Derived.Deep.RegionWith
import Derived.WalkKit
import Derived.ProofKit
import Derived.OpenShut
import Derived.ShutString
import Derived.ChangeOld
import Derived.Below
namespace Go.Proofs.Ytkdffblpoelcfaa.lebTakes
open Lb
open Fl (S IR nanB normN keyN NaNw cmpK unkN ofB)
open Go.ChangeShapes Go.WideShapes Go.ChangeAt Go.RowKit
open Go.ChangeMaps (open_string shut_string)
set_option linter.unusedVariables false
theorem own : ownKnob Try.prog.godebug = none := by kernel_rfl
theorem laidOut : laidOutB Try.prog = true := by kernel_rfl

set_option maxHeartbeats 8000000 in
set_option maxRecDepth 100000 in
theorem walk (a0 : Sl UInt8) (a1 : Sl Int) (w : World) (w0 : SlB w a0) (w1 : SlI .i64 w a1) :
    Calls Try.prog 4 #[slv a0, slv a1] w fun e w' => e = .returned (.bool true) ∧ Below w.heap.size w w' := by
  obtain ⟨A, l, c⟩ := a0
  obtain ⟨A1, ks, c1⟩ := a1
  have H0 : Hid (BS w A l c) := w0
  have HK : Hid (Row (.int .i64) w A1 ks) := w1.1
  clear w0 w1
  unfold slv
  simp only
  by_cases hb0 : 1000 < l.length
  · go_enter Try.func4, Try.ntmps4
    go_wp2
    go_ret
    exact ⟨rfl, Below.refl _ _⟩
  by_cases hb1 : 100 < ks.length
  · go_enter Try.func4, Try.ntmps4
    go_wp2
    go_ret
    exact ⟨rfl, Below.refl _ _⟩
  have hl0 : l.length ≤ 1000 := by omega
  have hl1 : ks.length ≤ 100 := by omega
  clear hb0 hb1
  go_enter Try.func4, Try.ntmps4
  go_wp2_with fail
  refine (open_any A l c w H0.out (by omega)).mono ?_
  rintro e w1 ⟨a, g, rfl, hcur, hbel, ha, hg⟩
  obtain ⟨g', hcur', hg'⟩ := cur_arg 42 H0.out hbel (show l.length ≤ 1000000 by omega)
  have hlt0 := hcur.1
  have HC2 := Lib.hid (hcur.below ((Below.refl w1.heap.size w1).alloc (Nat.le_refl _) (.cells #[.slice A l.length c, .bool false] 42)))
  have HB2 := Lib.hid (hbel.alloc hbel.size (.cells #[.slice A l.length c, .bool false] 42))
  have hs1 := hbel.size
  have HR2 := Lib.hid hcur'
  have Hg := Lib.hid hg
  have Hg' := Lib.hid hg'
  clear hcur' hcur hbel hg hg'
  go_wp2_with fail
  go_loopw [7] (fun i w2 => ∃ (k : Nat) (st : Option (List UInt8)), k ≤ ks.length ∧ i = .int .i64 k ∧ Hid (Cur w2 a g st) ∧ Hid (Cur w2 w1.heap.size g' st) ∧ Hid (Below w.heap.size w w2)) (fun i _ => ks.length - (intOf i).toNat)
  case atStart => exact ⟨0, some l, by omega, rfl, HC2.out, HR2.out, HB2.out⟩
  case round =>
    obtain ⟨k, st, hk, rfl, HC, HR, HB⟩ := hrel
    by_cases hlt : k < ks.length
    · obtain ⟨ad, hA, hc⟩ := (HK.out.below HB.out) k hlt
      subst hA
      obtain ⟨m, hm⟩ : ∃ m, bits BinOp.and IntKind.i64 ks[k] 3 = m := ⟨_, rfl⟩
      by_cases h0 : m = 0
      · have t0 : (m == 0) = true := by simpa using h0
        clear h0
        go_wp2_with fail
        refine (cint_any a g st _ HC.out).mono ?_
        rintro e w3 ⟨rfl, hc3, hgr3⟩
        have HC3 := Lib.hid hc3
        have HR3 := Lib.hid (HR.out.kept hgr3 (by intro e; injection e with e; omega) (.inr (fun e => by have := Hg'.out _ e; omega)))
        have HB3 := Lib.hid (below_grown HB.out hgr3 (Nat.le_refl _) ha)
        clear hc3 hgr3
        go_wp2_with fail
        refine (rcint_any w1.heap.size g' st _ HR3.out).mono ?_
        rintro e w5 ⟨rfl, hc5, hgr5⟩
        obtain ⟨ri, hri⟩ : ∃ r, resI st = r := ⟨_, rfl⟩
        rw [hri]
        have hdec : (ri != ri) = false := by simp
        clear hri
        have HR4 := Lib.hid hc5
        have HC4 := Lib.hid (HC3.out.kept hgr5 (by intro e; injection e with e; omega) (.inr (fun e => by have := Hg.out _ e; omega)))
        have HB4 := Lib.hid (below_grown HB3.out hgr5 (Nat.le_refl _) hs1)
        clear hgr5 hc5 hc
        generalize hst : nxtI st = st' at *
        clear hst
        cases st' with
        | none =>
          obtain ⟨h1, h2, h3, h4, k1, k2⟩ := HR4.out
          have HG := Lib.hid (fun q => good_any a g _ _ (HC4.out.drewN q))
          have HW := Lib.hid (fun q => whole_any a g _ _ (HC4.out.drewN q))
          have HV := Lib.hid (fun q => rwhole_any w1.heap.size g' _ _ (HR4.out.drewN q))
          rw [show whole none = false from rfl] at HW HV
          rw [show (none : Option (List UInt8)).isSome = false from rfl] at HG
          clear h1 h2 h3 h4 k1
          go_wp2_with fail
          go_quiet ((first
            | (go_at_call 26; exact quiet_eq (HG.out _))
            | (go_at_call 27; exact quiet_eq (HW.out _))
            | (go_at_call 28; exact quiet_eq (HV.out _))))
          go_wp2_with fail
          exact ⟨⟨k + 1, none, hlt, by go_num, HC4.out.drewN _, HR4.out.drewN _, below_drewN HB4.out _⟩, by simp [intOf]; omega⟩
        | some l' =>
          obtain ⟨h1, h2, h3, h4, A', c', k1, k2, k3, k4, k5⟩ := HR4.out
          have HG := Lib.hid (fun q => good_any a g _ _ (HC4.out.drewN q))
          have HW := Lib.hid (fun q => whole_any a g _ _ (HC4.out.drewN q))
          have HV := Lib.hid (fun q => rwhole_any w1.heap.size g' _ _ (HR4.out.drewN q))
          rw [show (some l').isSome = true from rfl] at HG
          obtain ⟨wl, hwl⟩ : ∃ b, whole (some l') = b := ⟨_, rfl⟩
          rw [hwl] at HW HV
          have hww : (wl != wl) = false := by cases wl <;> rfl
          clear h1 h2 h3 h4 k1 k3 k4 k5 hwl
          go_wp2_with fail
          go_quiet ((first
            | (go_at_call 26; exact quiet_eq (HG.out _))
            | (go_at_call 27; exact quiet_eq (HW.out _))
            | (go_at_call 28; exact quiet_eq (HV.out _))))
          go_wp2_with fail
          exact ⟨⟨k + 1, some l', hlt, by go_num, HC4.out.drewN _, HR4.out.drewN _, below_drewN HB4.out _⟩, by simp [intOf]; omega⟩
      · have t0 : (m == 0) = false := by simpa using h0
        clear h0
        by_cases h1 : m = 1
        · have t1 : (m == 1) = true := by simpa using h1
          clear h1
          go_wp2_with fail
          refine (cint_any a g st _ HC.out).mono ?_
          rintro e w3 ⟨rfl, hc3, hgr3⟩
          have HC3 := Lib.hid hc3
          have HR3 := Lib.hid (HR.out.kept hgr3 (by intro e; injection e with e; omega) (.inr (fun e => by have := Hg'.out _ e; omega)))
          have HB3 := Lib.hid (below_grown HB.out hgr3 (Nat.le_refl _) ha)
          clear hc3 hgr3
          go_wp2_with fail
          refine (rcint_any w1.heap.size g' st _ HR3.out).mono ?_
          rintro e w5 ⟨rfl, hc5, hgr5⟩
          obtain ⟨ri, hri⟩ : ∃ r, resI st = r := ⟨_, rfl⟩
          rw [hri]
          have hdec : (ri != ri) = false := by simp
          clear hri
          have HR4 := Lib.hid hc5
          have HC4 := Lib.hid (HC3.out.kept hgr5 (by intro e; injection e with e; omega) (.inr (fun e => by have := Hg.out _ e; omega)))
          have HB4 := Lib.hid (below_grown HB3.out hgr5 (Nat.le_refl _) hs1)
          clear hgr5 hc5 hc
          generalize hst : nxtI st = st' at *
          clear hst
          cases st' with
          | none =>
            obtain ⟨h1, h2, h3, h4, k1, k2⟩ := HR4.out
            have HG := Lib.hid (fun q => good_any a g _ _ (HC4.out.drewN q))
            have HW := Lib.hid (fun q => whole_any a g _ _ (HC4.out.drewN q))
            have HV := Lib.hid (fun q => rwhole_any w1.heap.size g' _ _ (HR4.out.drewN q))
            rw [show whole none = false from rfl] at HW HV
            rw [show (none : Option (List UInt8)).isSome = false from rfl] at HG
            clear h1 h2 h3 h4 k1
            go_wp2_with fail
            go_quiet ((first
              | (go_at_call 26; exact quiet_eq (HG.out _))
              | (go_at_call 27; exact quiet_eq (HW.out _))
              | (go_at_call 28; exact quiet_eq (HV.out _))))
            go_wp2_with fail
            exact ⟨⟨k + 1, none, hlt, by go_num, HC4.out.drewN _, HR4.out.drewN _, below_drewN HB4.out _⟩, by simp [intOf]; omega⟩
          | some l' =>
            obtain ⟨h1, h2, h3, h4, A', c', k1, k2, k3, k4, k5⟩ := HR4.out
            have HG := Lib.hid (fun q => good_any a g _ _ (HC4.out.drewN q))
            have HW := Lib.hid (fun q => whole_any a g _ _ (HC4.out.drewN q))
            have HV := Lib.hid (fun q => rwhole_any w1.heap.size g' _ _ (HR4.out.drewN q))
            rw [show (some l').isSome = true from rfl] at HG
            obtain ⟨wl, hwl⟩ : ∃ b, whole (some l') = b := ⟨_, rfl⟩
            rw [hwl] at HW HV
            have hww : (wl != wl) = false := by cases wl <;> rfl
            clear h1 h2 h3 h4 k1 k3 k4 k5 hwl
            go_wp2_with fail
            go_quiet ((first
              | (go_at_call 26; exact quiet_eq (HG.out _))
              | (go_at_call 27; exact quiet_eq (HW.out _))
              | (go_at_call 28; exact quiet_eq (HV.out _))))
            go_wp2_with fail
            exact ⟨⟨k + 1, some l', hlt, by go_num, HC4.out.drewN _, HR4.out.drewN _, below_drewN HB4.out _⟩, by simp [intOf]; omega⟩
        · have t1 : (m == 1) = false := by simpa using h1
          clear h1
          by_cases h2 : m = 2
          · have t2 : (m == 2) = true := by simpa using h2
            clear h2
            go_wp2_with fail
            refine (cstr_any a g st _ HC.out).mono ?_
            rintro e w3 ⟨rfl, hc3, hgr3⟩
            have HC3 := Lib.hid hc3
            have HR3 := Lib.hid (HR.out.kept hgr3 (by intro e; injection e with e; omega) (.inr (fun e => by have := Hg'.out _ e; omega)))
            have HB3 := Lib.hid (below_grown HB.out hgr3 (Nat.le_refl _) ha)
            clear hc3 hgr3
            go_wp2_with fail
            refine (rcstr_any w1.heap.size g' st _ HR3.out).mono ?_
            rintro e w5 ⟨rfl, hc5, hgr5⟩
            obtain ⟨ri, hri⟩ : ∃ r, bstr (resS st) = r := ⟨_, rfl⟩
            rw [hri]
            have hdec : (ri.toList == ri.toList) = true := by simp
            clear hri
            have HR4 := Lib.hid hc5
            have HC4 := Lib.hid (HC3.out.kept hgr5 (by intro e; injection e with e; omega) (.inr (fun e => by have := Hg.out _ e; omega)))
            have HB4 := Lib.hid (below_grown HB3.out hgr5 (Nat.le_refl _) hs1)
            clear hgr5 hc5 hc
            generalize hst : nxtS st = st' at *
            clear hst
            cases st' with
            | none =>
              obtain ⟨h1, h2, h3, h4, k1, k2⟩ := HR4.out
              have HG := Lib.hid (fun q => good_any a g _ _ (HC4.out.drewN q))
              have HW := Lib.hid (fun q => whole_any a g _ _ (HC4.out.drewN q))
              have HV := Lib.hid (fun q => rwhole_any w1.heap.size g' _ _ (HR4.out.drewN q))
              rw [show whole none = false from rfl] at HW HV
              rw [show (none : Option (List UInt8)).isSome = false from rfl] at HG
              clear h1 h2 h3 h4 k1
              go_wp2_with fail
              go_quiet ((first
                | (go_at_call 26; exact quiet_eq (HG.out _))
                | (go_at_call 27; exact quiet_eq (HW.out _))
                | (go_at_call 28; exact quiet_eq (HV.out _))))
              go_wp2_with fail
              exact ⟨⟨k + 1, none, hlt, by go_num, HC4.out.drewN _, HR4.out.drewN _, below_drewN HB4.out _⟩, by simp [intOf]; omega⟩
            | some l' =>
              obtain ⟨h1, h2, h3, h4, A', c', k1, k2, k3, k4, k5⟩ := HR4.out
              have HG := Lib.hid (fun q => good_any a g _ _ (HC4.out.drewN q))
              have HW := Lib.hid (fun q => whole_any a g _ _ (HC4.out.drewN q))
              have HV := Lib.hid (fun q => rwhole_any w1.heap.size g' _ _ (HR4.out.drewN q))
              rw [show (some l').isSome = true from rfl] at HG
              obtain ⟨wl, hwl⟩ : ∃ b, whole (some l') = b := ⟨_, rfl⟩
              rw [hwl] at HW HV
              have hww : (wl != wl) = false := by cases wl <;> rfl
              clear h1 h2 h3 h4 k1 k3 k4 k5 hwl
              go_wp2_with fail
              go_quiet ((first
                | (go_at_call 26; exact quiet_eq (HG.out _))
                | (go_at_call 27; exact quiet_eq (HW.out _))
                | (go_at_call 28; exact quiet_eq (HV.out _))))
              go_wp2_with fail
              exact ⟨⟨k + 1, some l', hlt, by go_num, HC4.out.drewN _, HR4.out.drewN _, below_drewN HB4.out _⟩, by simp [intOf]; omega⟩
          · have t2 : (m == 2) = false := by simpa using h2
            clear h2
            go_wp2_with fail
            refine (creal_any a g st _ HC.out).mono ?_
            rintro e w3 ⟨rfl, hc3, hgr3⟩
            have HC3 := Lib.hid hc3
            have HR3 := Lib.hid (HR.out.kept hgr3 (by intro e; injection e with e; omega) (.inr (fun e => by have := Hg'.out _ e; omega)))
            have HB3 := Lib.hid (below_grown HB.out hgr3 (Nat.le_refl _) ha)
            clear hc3 hgr3
            go_wp2_with fail
            refine (rcreal_any w1.heap.size g' st _ HR3.out).mono ?_
            rintro e w5 ⟨rfl, hc5, hgr5⟩
            go_wp2_with fail
            refine (same_any _ _ _).mono ?_
            rintro e w' ⟨rfl, rfl⟩
            rw [show sameB (resR st) (resR st) = true by simp [sameB]]
            have HR4 := Lib.hid hc5
            have HC4 := Lib.hid (HC3.out.kept hgr5 (by intro e; injection e with e; omega) (.inr (fun e => by have := Hg.out _ e; omega)))
            have HB4 := Lib.hid (below_grown HB3.out hgr5 (Nat.le_refl _) hs1)
            clear hgr5 hc5 hc
            generalize hst : nxtR st = st' at *
            clear hst
            cases st' with
            | none =>
              obtain ⟨h1, h2, h3, h4, k1, k2⟩ := HR4.out
              have HG := Lib.hid (fun q => good_any a g _ _ (HC4.out.drewN q))
              have HW := Lib.hid (fun q => whole_any a g _ _ (HC4.out.drewN q))
              have HV := Lib.hid (fun q => rwhole_any w1.heap.size g' _ _ (HR4.out.drewN q))
              rw [show whole none = false from rfl] at HW HV
              rw [show (none : Option (List UInt8)).isSome = false from rfl] at HG
              clear h1 h2 h3 h4 k1
              go_wp2_with fail
              go_quiet ((first
                | (go_at_call 26; exact quiet_eq (HG.out _))
                | (go_at_call 27; exact quiet_eq (HW.out _))
                | (go_at_call 28; exact quiet_eq (HV.out _))))
              go_wp2_with fail
              exact ⟨⟨k + 1, none, hlt, by go_num, HC4.out.drewN _, HR4.out.drewN _, below_drewN HB4.out _⟩, by simp [intOf]; omega⟩
            | some l' =>
              obtain ⟨h1, h2, h3, h4, A', c', k1, k2, k3, k4, k5⟩ := HR4.out
              have HG := Lib.hid (fun q => good_any a g _ _ (HC4.out.drewN q))
              have HW := Lib.hid (fun q => whole_any a g _ _ (HC4.out.drewN q))
              have HV := Lib.hid (fun q => rwhole_any w1.heap.size g' _ _ (HR4.out.drewN q))
              rw [show (some l').isSome = true from rfl] at HG
              obtain ⟨wl, hwl⟩ : ∃ b, whole (some l') = b := ⟨_, rfl⟩
              rw [hwl] at HW HV
              have hww : (wl != wl) = false := by cases wl <;> rfl
              clear h1 h2 h3 h4 k1 k3 k4 k5 hwl
              go_wp2_with fail
              go_quiet ((first
                | (go_at_call 26; exact quiet_eq (HG.out _))
                | (go_at_call 27; exact quiet_eq (HW.out _))
                | (go_at_call 28; exact quiet_eq (HV.out _))))
              go_wp2_with fail
              exact ⟨⟨k + 1, some l', hlt, by go_num, HC4.out.drewN _, HR4.out.drewN _, below_drewN HB4.out _⟩, by simp [intOf]; omega⟩
    · cases st with
      | none =>
        obtain ⟨h1, h2, h3, h4, k1, k2⟩ := HR.out
        have HG := Lib.hid (good_any a g _ _ (HC.out.below (Below.refl _ _).drew))
        rw [show (none : Option (List UInt8)).isSome = false from rfl] at HG
        clear h1 h2 h3 h4 k1
        go_wp2_with fail
        go_region_with ((first | (go_at_call 26; refine HG.out.mono ?_; rintro e w' ⟨rfl, rfl⟩) | (go_at_call 17; refine (known_any _).mono ?_; rintro e w7 ⟨rfl, hbel7⟩)))
        all_goals
          go_wp2_with fail
          go_ret
          exact ⟨rfl, bnext HB.out.drew hbel7⟩
      | some l' =>
        obtain ⟨h1, h2, h3, h4, A', c', k1, k2, k3, k4, k5⟩ := HR.out
        have HG := Lib.hid (good_any a g _ _ (HC.out.below (Below.refl _ _).drew))
        rw [show (some l').isSome = true from rfl] at HG
        clear h1 h2 h3 h4 k1 k3 k4 k5
        go_wp2_with fail
        go_region_with ((first | (go_at_call 26; refine HG.out.mono ?_; rintro e w' ⟨rfl, rfl⟩) | (go_at_call 17; refine (known_any _).mono ?_; rintro e w7 ⟨rfl, hbel7⟩)))
        all_goals
          go_wp2_with fail
          go_ret
          exact ⟨rfl, bnext HB.out.drew hbel7⟩

set_option maxRecDepth 100000 in
theorem lifted (os : Os) (started : os.Started) (H : Type) (enc : TypeId × Value → H) :
    ReturnsInHanded {} Try.checked os 4 .any (Rows.lebTakesSpec.pre6 enc Try.prog Try.f4 Rows.lebTakesRow.domain false) (Rows.lebTakesSpec.post enc Try.prog Try.f4 false true false false) := by
  refine returnsInHanded_of_change (C := Try.checked) own started (by kernel_rfl) Try.func4
    (ChangeSpec.witness6 (enc := enc) (C := Try.checked) false ⟨#[], #[.slice none 0 0, .slice none 0 0], []⟩ 8 (by kernel_rfl) (by kernel_rfl) (by kernel_rfl) (by kernel_rfl)) ?_
  intro W base args ds gs before hval0 hW hcnd _
  have hval : ∀ (j : Nat) t v, Try.f4.params[j]? = some t → args[j]? = some v → Value.okWide Try.prog W .any base t v := hval0
  have hW' := hW
  obtain ⟨p, q, hA0, hV, rfl, hfz, hnd⟩ := hW
  have hA : DataW.TrodAll enc Try.prog W 0 (fun _ => true) true Try.f4.params.toList args.toList ds p := hA0
  rw [Try.params4] at hA hval
  obtain ⟨v0, vs0, d0, ds0, p0, q0, hargs, rfl, rfl, h0, r0⟩ := trodAll_cons hA
  obtain ⟨v1, vs1, d1, ds1, p1, q1, rfl, rfl, rfl, h1, r1⟩ := trodAll_cons r0
  obtain ⟨rfl, rfl, rfl⟩ := trodAll_nil r1
  obtain rfl : args = #[v0, v1] := by cases args; simp_all
  obtain ⟨rfl, rfl⟩ := trodVars_none hV
  have k0 := h0
  have lt0 : ∀ x ∈ p0, x.block < W.heap.size := by obtain ⟨m, hm⟩ := k0; exact DataW.trod_lt m _ _ _ hm
  obtain ⟨a0, rfl, w0⟩ := open_bytes (hval 0 22 v0 rfl rfl) h0
  have k1 := h1
  have lt1 : ∀ x ∈ p1, x.block < W.heap.size := by obtain ⟨m, hm⟩ := k1; exact DataW.trod_lt m _ _ _ hm
  obtain ⟨a1, rfl, w1⟩ := open_ints64 (hval 1 23 v1 rfl rfl) h1
  clear hA0 hval0
  refine (walk a0 a1 W w0 w1).mono fun e W' ⟨he, bel⟩ => ?_
  subst he
  exact ⟨_, rfl, _, _, _, [], _, [], hW', trodAll_mk1 (shut_bool Try.underlying4 _), (trodAll_cons_mk (Below.trod laidOut (by kernel_rfl) (of_decide_eq_true (by kernel_rfl)) k0 bel lt0) (trodAll_cons_mk (Below.trod laidOut (by kernel_rfl) (of_decide_eq_true (by kernel_rfl)) k1 bel lt1) trodAll_mk0)), rfl, bel.frame _, fun h => by cases h⟩

theorem over : Rows.lebTakesRow.holds Try.pinned (OpenSpec.ofChange Rows.lebTakesSpec) :=
  OpenClaim.holds_of_wide 4 Try.f4 rfl rfl rfl rfl rfl rfl rfl ⟨rfl, rfl, rfl, rfl, rfl⟩ rfl rfl rfl rfl rfl (by kernel_rfl) Try.func4 (by kernel_rfl)
    (of_decide_eq_true (by kernel_rfl)) (by unfold Func.isWrapper; first | (rw [if_pos (by decide +kernel)]; kernel_rfl) | (rw [if_neg (by decide +kernel)]; exact ⟨rfl, rfl⟩))
    (fun os started H enc _ => lifted os started H enc)

theorem proved : Rows.LebTakesSaid := over
#print axioms proved
end Go.Proofs.Ytkdffblpoelcfaa.lebTakes
