/- Proved: ligaturelaw3.LebBack returns true for every list of integers, every list of strings and every uint64, and leaves its arguments as they were. No condition. -/
import Derived.Test.YtkdffblpoelcfaaRows
import Derived.Test.YtkdffblpoelcfaaLo
import Derived.Deep.RegionWith
import Derived.WalkKit
import Derived.ProofKit
import Derived.OpenShut
import Derived.ShutString
import Derived.ChangeOld
import Derived.Below
namespace Go.Proofs.Ytkdffblpoelcfaa.lebBack
open Lb
open Fl (S IR nanB normN keyN NaNw cmpK unkN ofB)
open Go.ChangeShapes Go.WideShapes Go.ChangeAt Go.RowKit
open Go.ChangeMaps (open_string shut_string)
set_option linter.unusedVariables false
theorem own : ownKnob Try.prog.godebug = none := by kernel_rfl
theorem laidOut : laidOutB Try.prog = true := by kernel_rfl
theorem in64 {n : Int} (h : (Lit.int .i64 n).wf = true) : In64 n := by simpa [In64, Lit.wf, IntKind.min, IntKind.max, IntKind.signed, IntKind.bits] using h
theorem encIs_drop (l : List Int) (k : Nat) (h : k < l.length) : encIs (l.drop k) = encI l[k] ++ encIs (l.drop (k + 1)) := by
  rw [List.drop_eq_getElem_cons h]; rfl
theorem encSs_drop (l : List ByteArray) (k : Nat) (h : k < l.length) : encSs (l.drop k) = encS l[k].data.toList ++ encSs (l.drop (k + 1)) := by
  rw [List.drop_eq_getElem_cons h]; rfl
theorem row_at {α : Type} {f : α → Value} {w : World} {ad : Addr} {l : List α} (h : Row f w (some ad) l) (k : Nat) (hk : k < l.length) : w.cell? (ad.add k) = some (f l[k]) := by
  obtain ⟨ad', e, hc⟩ := h k hk
  injection e with e
  subst e
  exact hc

set_option maxHeartbeats 2000000 in
set_option maxRecDepth 100000 in
theorem walk (a0 : Sl Int) (a1 : Sl ByteArray) (a2 : Int) (w : World) (w0 : SlI .i64 w a0) (w1 : SlS w a1) (w2 : (Lit.int .u64 a2).wf = true) :
    Calls Try.prog 5 #[slv a0, slv a1, .int .u64 a2] w fun e w' => e = .returned (.bool true) ∧ Below w.heap.size w w' := by
  obtain ⟨A0, ns, c0⟩ := a0
  obtain ⟨A1, ss, c1⟩ := a1
  obtain ⟨f, rfl, hf⟩ := u64_nat w2
  have HN : Hid (Row (.int .i64) w A0 ns) := w0.1
  have HW : Hid (∀ n ∈ ns, In64 n) := fun n hn => in64 (w0.2.1 n hn)
  have HS : Hid (Row .string w A1 ss) := w1.1
  have HX : Hid (∀ x ∈ ss, x.size ≤ 9223372036854775807) := w1.2
  have Hf := Lib.hid hf
  clear w0 w1 w2 hf
  unfold slv
  simp only
  by_cases hb0 : 100 < ns.length
  · go_enter Try.func5, Try.ntmps5
    go_wp2
    go_ret
    exact ⟨rfl, Below.refl _ _⟩
  by_cases hb1 : 60 < ss.length
  · go_enter Try.func5, Try.ntmps5
    go_wp2
    go_ret
    exact ⟨rfl, Below.refl _ _⟩
  have hl0 : ns.length ≤ 100 := by omega
  have hl1 : ss.length ≤ 60 := by omega
  clear hb0 hb1
  have Hlen0 := Lib.hid (encIs_len ns HW.out)
  go_enter Try.func5, Try.ntmps5
  go_wp2_with fail
  refine (int_any none [] 0 A0 ns c0 _ (bs_nil _) HN.out HW.out (by simp) (by omega)).mono ?_
  rintro e w1 ⟨v1, rfl, hown1, hbel1⟩
  rw [List.nil_append] at hown1
  obtain ⟨B1, d1, rfl, hbs1, _⟩ := hown1.open
  have HB1 := Lib.hid hbel1
  have HBS1 := Lib.hid hbs1
  have HD1 := Lib.hid ((Below.refl w1.heap.size w1).alloc (Nat.le_refl _) (.cells #[.float .f64 f] 29))
  have Hrow := Lib.hid (row_new (.float .f64) w1 29 [f] #[.float .f64 f] rfl)
  clear hown1 hbel1 hbs1
  go_wp2_with fail
  refine (real_any B1 (encIs ns) d1 _ [f] 1 _ (HBS1.out.below HD1.out) Hrow.out (by simpa using Hf.out) (by have := Hlen0.out; omega) (by simp)).mono ?_
  rintro e w2 ⟨v2, rfl, hown2, hbel2⟩
  rw [show encRs [f] = encR f by simp [encRs]] at hown2
  obtain ⟨B2, d2, rfl, hbs2, _⟩ := hown2.open
  have HB2 := Lib.hid (bnext HB1.out (bnext HD1.out hbel2))
  have HBS2 := Lib.hid hbs2
  have Hlen2 := Lib.hid (show (encIs ns ++ encR f).length ≤ 1008 by have := Hlen0.out; simp [encR, keyB_len]; omega)
  clear hown2 hbel2 hbs2
  generalize hL : encIs ns ++ encR f = L at *
  have HL := Lib.hid hL
  clear hL
  go_wp2_with fail
  go_loop [9] (fun i => ∃ k : Nat, k ≤ ss.length ∧ i = .int .i64 k ∧ Hid (∀ x ∈ ss.take k, x.size ≤ 300)) (fun i => ss.length - (intOf i).toNat)
  case atStart => exact ⟨0, by omega, rfl, by intro x hx; simp at hx⟩
  case round =>
    obtain ⟨k, hk, rfl, Hk⟩ := hrel
    by_cases hlt : k < ss.length
    · obtain ⟨ad, rfl, hc⟩ := (HS.out.below HB2.out) k hlt
      by_cases hsz : 300 < ss[k].size
      · go_wp2_with fail
        go_ret
        exact ⟨rfl, HB2.out⟩
      · have hsz2 : ss[k].size ≤ 300 := by omega
        go_wp2_with fail
        refine ⟨⟨k + 1, hlt, by go_num, ?_⟩, by simp [intOf]; omega⟩
        intro x hx
        rw [List.take_succ_eq_append_getElem hlt] at hx
        rcases List.mem_append.1 hx with hx | hx
        · exact Hk.out x hx
        · simp at hx; subst hx; exact hsz2
    · obtain rfl : k = ss.length := by omega
      have hks := Hk.out
      rw [List.take_length] at hks
      have Hks := Lib.hid hks
      have Hlen3 := Lib.hid (show (L ++ encSs ss).length ≤ 20000 by
        have := encSs_len 300 ss hks (by omega)
        have := Hlen2.out
        rw [List.length_append]; omega)
      clear hks Hk
      go_wp2_with fail
      refine (str_any B2 L d2 A1 ss c1 _ HBS2.out (HS.out.below HB2.out) HX.out (by have := Hlen3.out; omega) (by omega)).mono ?_
      rintro e w3 ⟨v3, rfl, hown3, hbel3⟩
      obtain ⟨T, hT⟩ : ∃ T, L ++ encSs ss = T := ⟨_, rfl⟩
      rw [hT] at hown3
      have Hlen4 : Hid (T.length ≤ 20000) := by show T.length ≤ 20000; rw [← hT]; exact Hlen3.out
      have HT := Lib.hid (show T = encIs ns ++ (encR f ++ encSs ss) by rw [← hT, ← HL.out, List.append_assoc])
      obtain ⟨B3, d3, rfl, hbs3, _⟩ := hown3.open
      have HB3 := Lib.hid (bnext HB2.out hbel3)
      have HBS3 := Lib.hid hbs3
      clear hown3 hbel3 hbs3 hT
      go_wp2_with fail
      refine (open_any B3 T d3 _ HBS3.out (by have := Hlen4.out; omega)).mono ?_
      rintro e w4 ⟨a, g, rfl, hc4, hb4, ha4, _⟩
      have HB4 := Lib.hid (bnext HB3.out hb4)
      have ha : w.heap.size ≤ a := Nat.le_trans HB3.out.size ha4
      rw [HT.out] at hc4
      have HC4 := Lib.hid hc4
      clear hc4 hb4 ha4
      go_wp2_with fail
      go_loopw [11] (fun i w5 => ∃ k : Nat, k ≤ ns.length ∧ i = .int .i64 k ∧ Hid (Cur w5 a g (some (encIs (ns.drop k) ++ (encR f ++ encSs ss)))) ∧ Hid (Below w.heap.size w w5)) (fun i _ => ns.length - (intOf i).toNat)
      case atStart => exact ⟨0, by omega, rfl, HC4.out, HB4.out⟩
      case round =>
        obtain ⟨k, hk, rfl, HC5, HB5⟩ := hrel
        by_cases hlt : k < ns.length
        · obtain ⟨ad, hA, hc⟩ := (HN.out.below HB5.out) k hlt
          subst hA
          have Hn := Lib.hid (HW.out _ (List.getElem_mem hlt))
          have HE := Lib.hid (encIs_drop ns k hlt)
          have Hcur := HC5.out.below (Below.refl _ _).drew
          rw [HE.out, List.append_assoc] at Hcur
          have Hnx := Lib.hid (nxtI_enc ns[k] Hn.out.1 Hn.out.2 (encIs (ns.drop (k + 1)) ++ (encR f ++ encSs ss)))
          have Hrs := Lib.hid (resI_enc ns[k] Hn.out.1 Hn.out.2 (encIs (ns.drop (k + 1)) ++ (encR f ++ encSs ss)))
          have HCI := Lib.hid (cint_any a g _ _ Hcur)
          rw [Hnx.out, Hrs.out] at HCI
          have HB5d := Lib.hid HB5.out.drew
          have hne : (ns[k] != ns[k]) = false := by simp
          clear Hcur
          go_wp2_with fail
          go_region_with ((first | (go_at_call 19; refine HCI.out.mono ?_; rintro e w6 ⟨rfl, hc6, hgr6⟩; have HB6 := Lib.hid (below_grown HB5d.out hgr6 (Nat.le_refl _) ha); have hcx := row_at (HN.out.below HB6.out) k hlt)))
          all_goals
            go_wp2_with fail
            exact ⟨⟨k + 1, hlt, by go_num, hc6, HB6.out⟩, by simp [intOf]; omega⟩
        · obtain rfl : k = ns.length := by omega
          have Hcur := HC5.out
          rw [List.drop_length, show encIs [] ++ (encR f ++ encSs ss) = encR f ++ encSs ss from rfl] at Hcur
          have Hnx := Lib.hid (nxtR_enc f Hf.out (encSs ss))
          have Hrs := Lib.hid (resR_enc f Hf.out (encSs ss))
          have HCR := Lib.hid (creal_any a g _ _ Hcur)
          rw [Hnx.out, Hrs.out] at HCR
          clear Hcur
          go_wp2_with fail
          refine HCR.out.mono ?_
          rintro e w6 ⟨rfl, hc6, hgr6⟩
          have HB6 := Lib.hid (below_grown HB5.out hgr6 (Nat.le_refl _) ha)
          have HC6 := Lib.hid hc6
          clear hc6 hgr6
          go_wp2_with fail
          refine (rnorm_any _ _).mono ?_
          rintro e w' ⟨rfl, rfl⟩
          go_wp2_with fail
          refine (same_any _ _ _).mono ?_
          rintro e w' ⟨rfl, rfl⟩
          rw [show sameB (normN f) (normN f) = true by simp [sameB]]
          go_wp2_with fail
          go_loopw [12] (fun i w7 => ∃ k : Nat, k ≤ ss.length ∧ i = .int .i64 k ∧ Hid (Cur w7 a g (some (encSs (ss.drop k)))) ∧ Hid (Below w.heap.size w w7)) (fun i _ => ss.length - (intOf i).toNat)
          case atStart => exact ⟨0, by omega, rfl, HC6.out, HB6.out⟩
          case round =>
            obtain ⟨k, hk, rfl, HC7, HB7⟩ := hrel
            by_cases hlt : k < ss.length
            · obtain ⟨ad, hA, hc⟩ := (HS.out.below HB7.out) k hlt
              subst hA
              have hsz : ss[k].data.toList.length ≤ 9223372036854775807 := HX.out _ (List.getElem_mem hlt)
              have HE := Lib.hid (encSs_drop ss k hlt)
              have Hcur := HC7.out.below (Below.refl _ _).drew
              rw [HE.out] at Hcur
              have Hnx := Lib.hid (nxtS_enc ss[k].data.toList (encSs (ss.drop (k + 1))) hsz)
              have Hrs := Lib.hid (resS_enc ss[k].data.toList (encSs (ss.drop (k + 1))) hsz)
              have HCI := Lib.hid (cstr_any a g _ _ Hcur)
              rw [Hnx.out, Hrs.out, bstr_data] at HCI
              have HB7d := Lib.hid HB7.out.drew
              have hne : (ss[k].toList == ss[k].toList) = true := by simp
              clear Hcur hsz
              go_wp2_with fail
              go_region_with ((first | (go_at_call 21; refine HCI.out.mono ?_; rintro e w8 ⟨rfl, hc8, hgr8⟩; have HB8 := Lib.hid (below_grown HB7d.out hgr8 (Nat.le_refl _) ha); have hcx := row_at (HS.out.below HB8.out) k hlt)))
              all_goals
                go_wp2_with fail
                exact ⟨⟨k + 1, hlt, by go_num, hc8, HB8.out⟩, by simp [intOf]; omega⟩
            · obtain rfl : k = ss.length := by omega
              have Hcur := HC7.out
              rw [List.drop_length, show encSs [] = [] from rfl] at Hcur
              have HWh := Lib.hid (whole_any a g _ _ Hcur)
              rw [show whole (some []) = true from rfl] at HWh
              clear Hcur
              go_wp2_with fail
              refine HWh.out.mono ?_
              rintro e w' ⟨rfl, rfl⟩
              go_wp2_with fail
              refine (known_any _).mono ?_
              rintro e w9 ⟨rfl, hb9⟩
              go_wp2_with fail
              go_ret
              exact ⟨rfl, bnext HB7.out hb9⟩

set_option maxRecDepth 100000 in
theorem lifted (os : Os) (started : os.Started) (H : Type) (enc : TypeId × Value → H) :
    ReturnsInHanded {} Try.checked os 5 .any (Rows.lebBackSpec.pre6 enc Try.prog Try.f5 Rows.lebBackRow.domain false) (Rows.lebBackSpec.post enc Try.prog Try.f5 false true false false) := by
  refine returnsInHanded_of_change (C := Try.checked) own started (by kernel_rfl) Try.func5
    (ChangeSpec.witness6 (enc := enc) (C := Try.checked) false ⟨#[], #[.slice none 0 0, .slice none 0 0, .int .u64 0], []⟩ 8 (by kernel_rfl) (by kernel_rfl) (by kernel_rfl) (by kernel_rfl)) ?_
  intro W base args ds gs before hval0 hW hcnd _
  have hval : ∀ (j : Nat) t v, Try.f5.params[j]? = some t → args[j]? = some v → Value.okWide Try.prog W .any base t v := hval0
  have hW' := hW
  obtain ⟨p, q, hA0, hV, rfl, hfz, hnd⟩ := hW
  have hA : DataW.TrodAll enc Try.prog W 0 (fun _ => true) true Try.f5.params.toList args.toList ds p := hA0
  rw [Try.params5] at hA hval
  obtain ⟨v0, vs0, d0, ds0, p0, q0, hargs, rfl, rfl, h0, r0⟩ := trodAll_cons hA
  obtain ⟨v1, vs1, d1, ds1, p1, q1, rfl, rfl, rfl, h1, r1⟩ := trodAll_cons r0
  obtain ⟨v2, vs2, d2, ds2, p2, q2, rfl, rfl, rfl, h2, r2⟩ := trodAll_cons r1
  obtain ⟨rfl, rfl, rfl⟩ := trodAll_nil r2
  obtain rfl : args = #[v0, v1, v2] := by cases args; simp_all
  obtain ⟨rfl, rfl⟩ := trodVars_none hV
  have k0 := h0
  have lt0 : ∀ x ∈ p0, x.block < W.heap.size := by obtain ⟨m, hm⟩ := k0; exact DataW.trod_lt m _ _ _ hm
  obtain ⟨a0, rfl, w0⟩ := open_ints64 (hval 0 23 v0 rfl rfl) h0
  have k1 := h1
  have lt1 : ∀ x ∈ p1, x.block < W.heap.size := by obtain ⟨m, hm⟩ := k1; exact DataW.trod_lt m _ _ _ hm
  obtain ⟨a1, rfl, w1⟩ := open_strs (hval 1 24 v1 rfl rfl) h1
  obtain ⟨a2, rfl, rfl, rfl, w2⟩ := open_int Try.underlying31 (hval 2 31 v2 rfl rfl) h2
  clear hA0 hval0
  refine (walk a0 a1 a2 W w0 w1 w2).mono fun e W' ⟨he, bel⟩ => ?_
  subst he
  exact ⟨_, rfl, _, _, _, [], _, [], hW', trodAll_mk1 (shut_bool Try.underlying4 _), (trodAll_cons_mk (Below.trod laidOut (by kernel_rfl) (of_decide_eq_true (by kernel_rfl)) k0 bel lt0) (trodAll_cons_mk (Below.trod laidOut (by kernel_rfl) (of_decide_eq_true (by kernel_rfl)) k1 bel lt1) (trodAll_cons_mk (shut_int Try.underlying31 w2) trodAll_mk0))), rfl, bel.frame _, fun h => by cases h⟩

theorem over : Rows.lebBackRow.holds Try.pinned (OpenSpec.ofChange Rows.lebBackSpec) :=
  OpenClaim.holds_of_wide 5 Try.f5 rfl rfl rfl rfl rfl rfl rfl ⟨rfl, rfl, rfl, rfl, rfl⟩ rfl rfl rfl rfl rfl (by kernel_rfl) Try.func5 (by kernel_rfl)
    (of_decide_eq_true (by kernel_rfl)) (by unfold Func.isWrapper; first | (rw [if_pos (by decide +kernel)]; kernel_rfl) | (rw [if_neg (by decide +kernel)]; exact ⟨rfl, rfl⟩))
    (fun os started H enc _ => lifted os started H enc)

theorem proved : Rows.LebBackSaid := over
#print axioms proved
end Go.Proofs.Ytkdffblpoelcfaa.lebBack
