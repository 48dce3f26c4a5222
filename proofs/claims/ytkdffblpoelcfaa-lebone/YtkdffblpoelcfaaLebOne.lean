/- Proved: ligaturelaw3.LebOne returns true for every slice of bytes, and leaves its argument as it was. No condition. -/
import Derived.Test.YtkdffblpoelcfaaRows
import Derived.Test.YtkdffblpoelcfaaLo
import Derived.Test.YtkdffblpoelcfaaLg
import Derived.BigQuiet
import Derived.Deep.QuietTactic
import Derived.WalkKit
import Derived.ProofKit
import Derived.OpenShut
import Derived.ShutString
import Derived.ChangeOld
import Derived.Below
namespace Go.Proofs.Ytkdffblpoelcfaa.lebOne
open Lb
open Fl (S IR nanB normN keyN NaNw cmpK unkN ofB)
open Go.Lib (uvarint zigzag uvarint_small uvarint_big unzigzag)
open Go.ChangeShapes Go.WideShapes Go.ChangeAt Go.RowKit
open Go.ChangeMaps (open_string shut_string)
set_option linter.unusedVariables false
theorem own : ownKnob Try.prog.godebug = none := by kernel_rfl
theorem laidOut : laidOutB Try.prog = true := by kernel_rfl
theorem cut_short (z s : Nat) (hz : z < M) (hs : s < (uvarint z).length) : dv 0 ((uvarint z).take s) = none := by
  cases hd : dv 0 ((uvarint z).take s) with
  | none => rfl
  | some p =>
    obtain ⟨z', s'⟩ := p
    exfalso
    obtain ⟨h1, _, h3, h4⟩ := dv_some _ 0 z' s' (by omega) hd
    obtain ⟨_, h5, _⟩ := dv_size hd
    have e1 := dv_of (uvarint z) 0 z' (((uvarint z).take s).drop s' ++ (uvarint z).drop s) (by rw [← List.append_assoc, h4, List.take_append_drop]) h1 (fun h => absurd h (by omega)) (by omega)
    have e2 := dv_of (uvarint z) 0 z [] (by simp) hz (fun h => absurd h (by omega)) (by omega)
    rw [e1] at e2
    injection e2 with e2
    injection e2 with e2 e3
    simp at h5
    omega

set_option maxHeartbeats 2000000 in
set_option maxRecDepth 100000 in
theorem walk (a0 : Sl UInt8) (w : World) (w0 : SlB w a0) :
    Calls Try.prog 6 #[slv a0] w fun e w' => e = .returned (.bool true) ∧ Below w.heap.size w w' := by
  obtain ⟨A, l, c⟩ := a0
  have H0 : Hid (BS w A l c) := w0
  clear w0
  unfold slv
  simp only
  by_cases hbig : 100 < l.length
  · go_enter Try.func6, Try.ntmps6
    go_wp2
    go_ret
    exact ⟨rfl, Below.refl _ _⟩
  · have hle : l.length ≤ 100 := by omega
    clear hbig
    go_enter Try.func6, Try.ntmps6
    go_wp2_with fail
    refine (open_any A l c w H0.out (by omega)).mono ?_
    rintro e w1 ⟨a, g, rfl, hcur, hbel, ha, hg⟩
    have hlt := hcur.1
    have hs1 := hbel.size
    have HC1 := Lib.hid hcur
    have HB1 := Lib.hid hbel
    have Hg := Lib.hid hg
    clear hcur hbel hg
    go_wp2_with fail
    refine (cint_any a g _ _ HC1.out).mono ?_
    rintro e w2 ⟨rfl, hc2, hgr2⟩
    have HB2 := Lib.hid (below_grown HB1.out hgr2 (Nat.le_refl _) ha)
    have hs2 := hgr2.size
    clear hgr2
    cases hd : dv 0 l with
    | none =>
      rw [(nxtI_none hd).1] at hc2
      rw [(nxtI_none hd).2]
      have HC2 := Lib.hid hc2
      have Hn := Lib.hid (nxtI_none hd)
      clear hc2 hd
      go_wp2_with fail
      refine (good_any a g _ _ HC2.out).mono ?_
      rintro e w' ⟨rfl, rfl⟩
      obtain ⟨g', hcur', hg'⟩ := cur_arg 42 H0.out HB2.out (show l.length ≤ 1000000 by omega)
      have HR2 := Lib.hid hcur'
      have Hb3 := Lib.hid (HB2.out.alloc HB2.out.size (.cells #[.slice A l.length c, .bool false] 42))
      have HC3 := Lib.hid (HC2.out.below ((Below.refl w2.heap.size w2).alloc (Nat.le_refl _) (.cells #[.slice A l.length c, .bool false] 42)))
      clear hcur' hg'
      go_wp2_with fail
      refine (rcint_any w2.heap.size g' _ _ HR2.out).mono ?_
      rintro e w4 ⟨rfl, hc4, hgr4⟩
      have HC4 := Lib.hid (HC3.out.kept hgr4 (by intro e; injection e with e; omega) (.inr (fun e => by have := Hg.out _ e; omega)))
      have HB4 := Lib.hid (below_grown Hb3.out hgr4 (Nat.le_refl _) (by omega))
      rw [Hn.out.1] at hc4
      obtain ⟨h1, h2, h3, h4, k1, k2⟩ := hc4
      clear hgr4 h2 h3 h4 k1
      go_wp2_with fail
      refine (whole_any a g _ _ HC4.out).mono ?_
      rintro e w' ⟨rfl, rfl⟩
      rw [show whole none = false from rfl]
      go_wp2_with fail
      refine (known_any _).mono ?_
      rintro e w5 ⟨rfl, hb5⟩
      go_wp2_with fail
      go_ret
      exact ⟨rfl, bnext HB4.out hb5⟩
    | some p =>
      obtain ⟨z, s⟩ := p
      obtain ⟨s1, s2, hz⟩ := dv_size hd
      obtain ⟨_, _, d3, d4⟩ := dv_some l 0 z s (by omega) hd
      rw [(nxtI_some hd).1] at hc2
      rw [(nxtI_some hd).2]
      have HC2 := Lib.hid hc2
      have hbd := unzig_bd z hz
      have Henc := Lib.hid (show [] ++ encIs [unzigzag z] = uvarint z by simp [encIs, encI, zig_unzig])
      have Htk := Lib.hid (show l.take s = uvarint z by
        have := congrArg (List.take s) d4
        rw [List.take_append_of_le_length (by omega), List.take_of_length_le (by omega)] at this
        exact this.symm)
      have Hlen := Lib.hid d3
      have Hz := Lib.hid hz
      have Hcut := Lib.hid (nxtI_none (cut_short z (s - 1) hz (by omega)))
      clear hc2 hd hz d3 d4
      generalize unzigzag z = n at *
      have Hbd : Hid (In64 n) := hbd
      clear hbd
      go_wp2_with fail
      refine (good_any a g _ _ HC2.out).mono ?_
      rintro e w' ⟨rfl, rfl⟩
      have Hrow := Lib.hid (row_new (.int .i64) w2 3 [n] #[.int .i64 n] rfl)
      have HB3 := Lib.hid (HB2.out.alloc HB2.out.size (.cells #[.int .i64 n] 3))
      go_wp2_with fail
      refine (int_any none [] 0 _ [n] 1 _ (bs_nil _) Hrow.out (by simpa using Hbd.out) (by simp) (by simp)).mono ?_
      rintro e w3 ⟨v3, rfl, hown3, hbel3⟩
      rw [Henc.out] at hown3
      have HB4 := Lib.hid (HB3.out.trans (hbel3.mono HB3.out.size))
      obtain ⟨A3, c3, rfl, hbs3, _⟩ := hown3.open
      rw [← Hlen.out]
      have HT := Lib.hid hbs3
      have hcap := hbs3.cap
      rw [← Hlen.out] at hcap
      clear hbel3 hown3 hbs3
      have hcA := fun q => ((HT.out.drewN q).conv s Hlen.out)
      have hcB := fun q => (((H0.out.below HB4.out).drewN q).take s).conv s (by simp; omega)
      rw [Htk.out] at hcB
      have hcp := H0.out.cap
      have hsl := slice_to A l.length c s (by omega)
      have hq : ((bstr (uvarint z)).toList == (bstr (uvarint z)).toList) = true := by simp
      have hne : ((s : Int) == 0) = false := by simp; omega
      go_wp2_with fail
      go_quiet (fail)
      have hsl2 := slice_to A3 s c3 (s - 1) (by omega)
      rw [show ((s - 1 : Nat) : Int) = (s : Int) - 1 by omega] at hsl2
      have Hop := Lib.hid (fun q => open_any A3 ((uvarint z).take (s - 1)) c3 (w3.drewN q) ((HT.out.drewN q).take (s - 1)) (by rw [List.length_take, ← Hlen.out]; omega))
      have Hl2 := Lib.hid (show ((uvarint z).take (s - 1)).length = s - 1 by rw [List.length_take, ← Hlen.out]; omega)
      rw [Hl2.out] at Hop
      clear hcA hcB hsl hq hne
      go_wp2_with fail
      refine (Hop.out _).mono ?_
      rintro e w5 ⟨a5, g5, rfl, hc5, hb5, hge5, _⟩
      have HC5 := Lib.hid hc5
      have HB5 := Lib.hid (bnext (below_drewN HB4.out nq) hb5)
      have ha5 := hc5.1
      clear hc5 hb5
      go_wp2_with fail
      refine (cint_any a5 g5 _ _ HC5.out).mono ?_
      rintro e w6 ⟨rfl, hc6, hgr6⟩
      rw [Hcut.out.1] at hc6
      rw [Hcut.out.2]
      have HC6 := Lib.hid hc6
      have HB6 := Lib.hid (below_grown HB5.out hgr6 (Nat.le_refl _) (Nat.le_trans HB4.out.size hge5))
      clear hc6 hgr6
      go_wp2_with fail
      refine (good_any a5 g5 _ _ HC6.out).mono ?_
      rintro e w' ⟨rfl, rfl⟩
      go_wp2_with fail
      refine (known_any _).mono ?_
      rintro e w7 ⟨rfl, hb7⟩
      go_wp2_with fail
      go_ret
      exact ⟨rfl, bnext HB6.out hb7⟩

set_option maxRecDepth 100000 in
theorem lifted (os : Os) (started : os.Started) (H : Type) (enc : TypeId × Value → H) :
    ReturnsInHanded {} Try.checked os 6 .any (Rows.lebOneSpec.pre6 enc Try.prog Try.f6 Rows.lebOneRow.domain false) (Rows.lebOneSpec.post enc Try.prog Try.f6 false true false false) := by
  refine returnsInHanded_of_change (C := Try.checked) own started (by kernel_rfl) Try.func6
    (ChangeSpec.witness6 (enc := enc) (C := Try.checked) false ⟨#[], #[.slice none 0 0], []⟩ 8 (by kernel_rfl) (by kernel_rfl) (by kernel_rfl) (by kernel_rfl)) ?_
  intro W base args ds gs before hval0 hW hcnd _
  have hval : ∀ (j : Nat) t v, Try.f6.params[j]? = some t → args[j]? = some v → Value.okWide Try.prog W .any base t v := hval0
  have hW' := hW
  obtain ⟨p, q, hA0, hV, rfl, hfz, hnd⟩ := hW
  have hA : DataW.TrodAll enc Try.prog W 0 (fun _ => true) true Try.f6.params.toList args.toList ds p := hA0
  rw [Try.params6] at hA hval
  obtain ⟨v0, vs0, d0, ds0, p0, q0, hargs, rfl, rfl, h0, r0⟩ := trodAll_cons hA
  obtain ⟨rfl, rfl, rfl⟩ := trodAll_nil r0
  obtain rfl : args = #[v0] := by cases args; simp_all
  obtain ⟨rfl, rfl⟩ := trodVars_none hV
  have k0 := h0
  have lt0 : ∀ x ∈ p0, x.block < W.heap.size := by obtain ⟨m, hm⟩ := k0; exact DataW.trod_lt m _ _ _ hm
  obtain ⟨a0, rfl, w0⟩ := open_bytes (hval 0 22 v0 rfl rfl) h0
  clear hA0 hval0
  refine (walk a0 W w0).mono fun e W' ⟨he, bel⟩ => ?_
  subst he
  exact ⟨_, rfl, _, _, _, [], _, [], hW', trodAll_mk1 (shut_bool Try.underlying4 _), (trodAll_cons_mk (Below.trod laidOut (by kernel_rfl) (of_decide_eq_true (by kernel_rfl)) k0 bel lt0) trodAll_mk0), rfl, bel.frame _, fun h => by cases h⟩

theorem over : Rows.lebOneRow.holds Try.pinned (OpenSpec.ofChange Rows.lebOneSpec) :=
  OpenClaim.holds_of_wide 6 Try.f6 rfl rfl rfl rfl rfl rfl rfl ⟨rfl, rfl, rfl, rfl, rfl⟩ rfl rfl rfl rfl rfl (by kernel_rfl) Try.func6 (by kernel_rfl)
    (of_decide_eq_true (by kernel_rfl)) (by unfold Func.isWrapper; first | (rw [if_pos (by decide +kernel)]; kernel_rfl) | (rw [if_neg (by decide +kernel)]; exact ⟨rfl, rfl⟩))
    (fun os started H enc _ => lifted os started H enc)

theorem proved : Rows.LebOneSaid := over
#print axioms proved
end Go.Proofs.Ytkdffblpoelcfaa.lebOne
