/- Proved: ligaturelaw3.LebJoins returns true for all lists of integers a and b and every list of strings, and leaves its arguments as they were. No condition. -/
import Derived.Test.YtkdffblpoelcfaaRows
import Derived.Test.YtkdffblpoelcfaaLq
import Derived.Deep.RegionWith
import Derived.WalkKit
import Derived.ProofKit
import Derived.OpenShut
import Derived.ShutString
import Derived.ChangeOld
import Derived.Below
namespace Go.Proofs.Ytkdffblpoelcfaa.lebJoins
open Lb
open Fl (S IR nanB normN keyN NaNw cmpK unkN ofB)
open Go.ChangeShapes Go.WideShapes Go.ChangeAt Go.RowKit
open Go.ChangeMaps (open_string shut_string)
set_option linter.unusedVariables false
theorem own : ownKnob Try.prog.godebug = none := by kernel_rfl
theorem laidOut : laidOutB Try.prog = true := by kernel_rfl

set_option maxHeartbeats 2000000 in
set_option maxRecDepth 100000 in
theorem walk (a0 : Sl Int) (a1 : Sl Int) (a2 : Sl ByteArray) (w : World) (w0 : SlI .i64 w a0) (w1 : SlI .i64 w a1) (w2 : SlS w a2) :
    Calls Try.prog 8 #[slv a0, slv a1, slv a2] w fun e w' => e = .returned (.bool true) ∧ Below w.heap.size w w' := by
  obtain ⟨A0, xs, c0⟩ := a0
  obtain ⟨A1, ys, c1⟩ := a1
  obtain ⟨A2, ss, c2⟩ := a2
  have HA : Hid (Row (.int .i64) w A0 xs) := w0.1
  have HAw : Hid (∀ n ∈ xs, In64 n) := fun n hn => in64 (w0.2.1 n hn)
  have HA0 : Hid (A0 = none → c0 = 0) := w0.2.2
  have HBr : Hid (Row (.int .i64) w A1 ys) := w1.1
  have HBw : Hid (∀ n ∈ ys, In64 n) := fun n hn => in64 (w1.2.1 n hn)
  have HB0 : Hid (A1 = none → c1 = 0) := w1.2.2
  have HS : Hid (Row .string w A2 ss) := w2.1
  have HX : Hid (∀ x ∈ ss, x.size ≤ 9223372036854775807) := w2.2
  clear w0 w1 w2
  unfold slv
  simp only
  by_cases hb0 : 60 < xs.length
  · go_enter Try.func8, Try.ntmps8
    go_wp2
    go_ret
    exact ⟨rfl, Below.refl _ _⟩
  by_cases hb1 : 60 < ys.length
  · go_enter Try.func8, Try.ntmps8
    go_wp2
    go_ret
    exact ⟨rfl, Below.refl _ _⟩
  by_cases hb2 : 30 < ss.length
  · go_enter Try.func8, Try.ntmps8
    go_wp2
    go_ret
    exact ⟨rfl, Below.refl _ _⟩
  have hl0 : xs.length ≤ 60 := by omega
  have hl1 : ys.length ≤ 60 := by omega
  have hl2 : ss.length ≤ 30 := by omega
  clear hb0 hb1 hb2
  have Hlen0 := Lib.hid (encIs_len xs HAw.out)
  have Hlen1 := Lib.hid (encIs_len ys HBw.out)
  go_enter Try.func8, Try.ntmps8
  go_wp2_with fail
  refine (int_any none [] 0 A0 xs c0 _ (bs_nil _) HA.out HAw.out (by simp) (by omega)).mono ?_
  rintro e w1 ⟨v1, rfl, hown1, hbel1⟩
  rw [List.nil_append] at hown1
  obtain ⟨B1, d1, rfl, hbs1, _⟩ := hown1.open
  have HB1 := Lib.hid hbel1
  have HBS1 := Lib.hid hbs1
  clear hown1 hbel1 hbs1
  go_wp2_with fail
  refine (int_any B1 (encIs xs) d1 A1 ys c1 _ HBS1.out (HBr.out.below HB1.out) HBw.out (by have := Hlen0.out; omega) (by omega)).mono ?_
  rintro e w2 ⟨v2, rfl, hown2, hbel2⟩
  obtain ⟨L, hL⟩ : ∃ L, encIs xs ++ encIs ys = L := ⟨_, rfl⟩
  rw [hL] at hown2
  have HL := Lib.hid hL
  have Hll : Hid (L.length ≤ 2000) := by show L.length ≤ 2000; rw [← hL, List.length_append]; have := Hlen0.out; have := Hlen1.out; omega
  obtain ⟨B2, d2, rfl, hbs2, _⟩ := hown2.open
  have HB2 := Lib.hid (bnext HB1.out hbel2)
  have HBS2 := Lib.hid hbs2
  clear hown2 hbel2 hbs2 hL
  have hs2 := HB2.out.size
  have HD3 := Lib.hid ((Below.refl w2.heap.size w2).alloc (Nat.le_refl _) (.cells #[] 3))
  have HB3 := Lib.hid (bnext HB2.out HD3.out)
  have Hem := Lib.hid (OwnG.empty 3 (.int .i64) w2.heap.size w2 (Nat.le_refl _))
  go_wp2_with (at_builtin; refine wp_appG (f := .int .i64) 23 3 (.int .i64 0) 8 Try.underlying23 infoI rfl (by decide) (fun _ => rfl) rfl (.tmp 28) (.tmp 29) rfl w2.heap.size _ [] Hem.out rfl A0 xs _ c0 rfl rfl (HA.out.below HB3.out) HA0.out (by simp; omega) HD3.out.size ?_)
  intro v4 w4 hown4 hbel4
  have HD4 := Lib.hid (HD3.out.trans hbel4)
  have HB4 := Lib.hid (bnext HB2.out HD4.out)
  clear hbel4
  go_wp2_with (at_builtin; refine wp_appG (f := .int .i64) 23 3 (.int .i64 0) 8 Try.underlying23 infoI rfl (by decide) (fun _ => rfl) rfl (.tmp 30) (.tmp 31) rfl w2.heap.size _ xs hown4 rfl A1 ys _ c1 rfl rfl (HBr.out.below HB4.out) HB0.out (by omega) HD4.out.size ?_)
  intro v5 w5 hown5 hbel5
  have HD5 := Lib.hid (HD4.out.trans hbel5)
  clear hbel5 hown4
  obtain ⟨M5, hM5⟩ : ∃ m, xs ++ ys = m := ⟨_, rfl⟩
  rw [hM5] at hown5
  have Hm1 : Hid (encIs M5 = L) := by show _ = _; rw [← hM5, ← HL.out]; unfold encIs; rw [List.flatMap_append]
  have Hm2 : Hid (M5.length ≤ 120) := by show M5.length ≤ 120; rw [← hM5, List.length_append]; omega
  have Hm3 : Hid (∀ n ∈ M5, In64 n) := by
    intro n hn
    rw [← hM5] at hn
    rcases List.mem_append.1 hn with h | h
    · exact HAw.out n h
    · exact HBw.out n h
  obtain ⟨A5, c5, rfl, hr5, _⟩ := hown5.open
  have HR5 := Lib.hid hr5
  clear hown5 hr5 hM5
  go_wp2_with fail
  refine (int_any none [] 0 A5 M5 c5 _ (bs_nil _) HR5.out Hm3.out (by simp) (by have := Hm2.out; omega)).mono ?_
  rintro e w6 ⟨v6, rfl, hown6, hbel6⟩
  rw [List.nil_append, Hm1.out] at hown6
  obtain ⟨B6, d6, rfl, hbs6, _⟩ := hown6.open
  have HD6 := Lib.hid (HD5.out.trans (hbel6.mono HD5.out.size))
  have HBx := Lib.hid (HBS2.out.below HD6.out)
  have HBy := Lib.hid hbs6
  have HB6 := Lib.hid (bnext HB2.out HD6.out)
  clear hown6 hbel6 hbs6
  go_wp2_with fail
  go_loopw [9, 10] (fun z i wz => ∃ k : Nat, k ≤ ss.length ∧ i = .int .i64 k ∧ Hid (∀ x ∈ ss.take k, x.size ≤ 200) ∧ Hid (Own w6.heap.size wz z (encSs (ss.take k))) ∧ Hid (Below w6.heap.size w6 wz)) (fun _ i _ => ss.length - (intOf i).toNat)
  case atStart => exact ⟨0, by omega, rfl, by intro x hx; simp at hx, Own.nil _ _, Below.refl _ _⟩
  case round =>
    obtain ⟨k, hk, rfl, Hk, Hown, HBl⟩ := hrel
    have HBw2 := Lib.hid (bnext HB6.out HBl.out)
    obtain ⟨Az, cz, rfl, hbz, _⟩ := Hown.out.open
    have HBz := Lib.hid hbz
    clear hbz
    have Hlz := Lib.hid (encSs_len 200 (ss.take k) Hk.out (by omega))
    by_cases hlt : k < ss.length
    · obtain ⟨ad, rfl, hc⟩ := (HS.out.below HBw2.out) k hlt
      by_cases hsz : 200 < ss[k].size
      · go_wp2_with fail
        go_ret
        exact ⟨rfl, HBw2.out⟩
      · have hsz2 : ss[k].size ≤ 200 := by omega
        have HE := Lib.hid (encSs_snoc ss k hlt)
        obtain ⟨s, hs⟩ : ∃ s, ss[k] = s := ⟨_, rfl⟩
        rw [hs] at hc hsz2 HE hsz
        have Hs := Lib.hid hs
        have HDz := Lib.hid ((Below.refl wr.heap.size wr).alloc (Nat.le_refl _) (.cells #[.string s] 9))
        have Hrow := Lib.hid (row_new .string wr 9 [s] #[.string s] rfl)
        have Hen := Lib.hid (show encSs [s] = encS s.data.toList by simp [encSs])
        have hsl := (encS_len s (by omega)).1
        have Hsl := Lib.hid hsl
        clear hs hsl
        generalize hZ : encSs (ss.take k) = Z at *
        have HZ := Lib.hid hZ
        clear hZ
        have Hbd : Hid ((Z ++ encSs [s]).length ≤ 100000) := by
          show _ ≤ 100000
          have h1 := Hlz.out
          have h2 := Hsl.out
          have h3 : (ss.take k).length ≤ 30 := by rw [List.length_take]; omega
          rw [List.length_append, Hen.out]; omega
        go_wp2_with fail
        refine (str_any Az Z cz _ [s] 1 _ (HBz.out.below HDz.out) Hrow.out (by intro x hx; simp at hx; subst hx; omega) Hbd.out (by simp)).mono ?_
        rintro e w8 ⟨v8, rfl, hown8, hbel8⟩
        rw [Hen.out] at hown8
        have HB8 := Lib.hid (HBl.out.trans ((bnext HDz.out hbel8).mono HBl.out.size))
        have Hown8 := Lib.hid (hown8.mono (B' := w6.heap.size) (Nat.le_trans HBl.out.size HDz.out.size))
        clear hown8 hbel8 hc
        go_wp2_with fail
        refine ⟨⟨k + 1, hlt, by go_num, ?_, ?_, HB8.out⟩, by simp [intOf]; omega⟩
        · intro x hx
          rw [List.take_succ_eq_append_getElem hlt] at hx
          rcases List.mem_append.1 hx with hx | hx
          · exact Hk.out x hx
          · simp at hx; subst hx; rw [Hs.out]; exact hsz2
        · show Own _ _ _ _
          rw [HE.out]
          exact Hown8.out
    · obtain rfl : k = ss.length := by omega
      have hkk := Hk.out
      have hlz := Hlz.out
      rw [List.take_length] at hkk HBz hlz Hown ⊢
      have HBw3 := HBw2.out
      have HDr := Lib.hid ((Below.refl wr.heap.size wr).drew)
      have HBxr := Lib.hid ((HBx.out.below HBl.out).below HDr.out)
      have HByr := Lib.hid ((HBy.out.below HBl.out).below HDr.out)
      have HBzr := Lib.hid (HBz.out.below HDr.out)
      have hcx := HBxr.out.conv L.length rfl
      have hcy := HByr.out.conv L.length rfl
      generalize hZ : encSs ss = Z at *
      have HZ := Lib.hid hZ
      have Hlz2 := Lib.hid (show Z.length ≤ 10000 by omega)
      clear hZ hlz hkk HBw3
      have hcz := HBzr.out.conv Z.length rfl
      have hq1 : ((bstr L).toList == (bstr L).toList) = true := by simp
      have hq2 : ((bstr Z).toList == (bstr Z).toList) = true := by simp
      have HSt := Lib.hid (str_any none [] 0 A2 ss c2 wr.drew (bs_nil _) (HS.out.below (bnext HBw2.out HDr.out)) HX.out (by have := Hlz2.out; rw [HZ.out]; simpa using (by omega : Z.length ≤ 100000)) (by omega))
      rw [List.nil_append, HZ.out] at HSt
      go_wp2_with fail
      go_region_with ((first
        | (go_at_call 15; refine HSt.out.mono ?_; rintro e w8 ⟨v8, rfl, hown8, hbel8⟩; obtain ⟨A8, c8, rfl, hbs8, _⟩ := hown8.open; have hcv8 := hbs8.conv Z.length rfl; have hcz8 := (HBzr.out.below hbel8).conv Z.length rfl)
        | (go_at_call 17; refine (known_any _).mono ?_; rintro e w9 ⟨rfl, hbel9⟩)))
      all_goals
        go_wp2_with fail
        go_ret
        exact ⟨rfl, bnext HBw2.out (bnext HDr.out (bnext hbel8 hbel9))⟩

set_option maxRecDepth 100000 in
theorem lifted (os : Os) (started : os.Started) (H : Type) (enc : TypeId × Value → H) :
    ReturnsInHanded {} Try.checked os 8 .any (Rows.lebJoinsSpec.pre6 enc Try.prog Try.f8 Rows.lebJoinsRow.domain false) (Rows.lebJoinsSpec.post enc Try.prog Try.f8 false true false false) := by
  refine returnsInHanded_of_change (C := Try.checked) own started (by kernel_rfl) Try.func8
    (ChangeSpec.witness6 (enc := enc) (C := Try.checked) false ⟨#[], #[.slice none 0 0, .slice none 0 0, .slice none 0 0], []⟩ 8 (by kernel_rfl) (by kernel_rfl) (by kernel_rfl) (by kernel_rfl)) ?_
  intro W base args ds gs before hval0 hW hcnd _
  have hval : ∀ (j : Nat) t v, Try.f8.params[j]? = some t → args[j]? = some v → Value.okWide Try.prog W .any base t v := hval0
  have hW' := hW
  obtain ⟨p, q, hA0, hV, rfl, hfz, hnd⟩ := hW
  have hA : DataW.TrodAll enc Try.prog W 0 (fun _ => true) true Try.f8.params.toList args.toList ds p := hA0
  rw [Try.params8] at hA hval
  obtain ⟨v0, vs0, d0, ds0, p0, q0, hargs, rfl, rfl, h0, r0⟩ := trodAll_cons hA
  obtain ⟨v1, vs1, d1, ds1, p1, q1, rfl, rfl, rfl, h1, r1⟩ := trodAll_cons r0
  obtain ⟨v2, vs2, d2, ds2, p2, q2, rfl, rfl, rfl, h2, r2⟩ := trodAll_cons r1
  obtain ⟨rfl, rfl, rfl⟩ := trodAll_nil r2
  obtain rfl : args = #[v0, v1, v2] := by cases args; simp_all
  obtain ⟨rfl, rfl⟩ := trodVars_none hV
  have k0 := h0
  have lt0 : ∀ x ∈ p0, x.block < W.heap.size := by obtain ⟨m, hm⟩ := k0; exact DataW.trod_lt m _ _ _ hm
  obtain ⟨a0, rfl, w0⟩ := open_ints64 (hval 0 23 v0 rfl rfl) h0
  have k1 := h1
  have lt1 : ∀ x ∈ p1, x.block < W.heap.size := by obtain ⟨m, hm⟩ := k1; exact DataW.trod_lt m _ _ _ hm
  obtain ⟨a1, rfl, w1⟩ := open_ints64 (hval 1 23 v1 rfl rfl) h1
  have k2 := h2
  have lt2 : ∀ x ∈ p2, x.block < W.heap.size := by obtain ⟨m, hm⟩ := k2; exact DataW.trod_lt m _ _ _ hm
  obtain ⟨a2, rfl, w2⟩ := open_strs (hval 2 24 v2 rfl rfl) h2
  clear hA0 hval0
  refine (walk a0 a1 a2 W w0 w1 w2).mono fun e W' ⟨he, bel⟩ => ?_
  subst he
  exact ⟨_, rfl, _, _, _, [], _, [], hW', trodAll_mk1 (shut_bool Try.underlying4 _), (trodAll_cons_mk (Below.trod laidOut (by kernel_rfl) (of_decide_eq_true (by kernel_rfl)) k0 bel lt0) (trodAll_cons_mk (Below.trod laidOut (by kernel_rfl) (of_decide_eq_true (by kernel_rfl)) k1 bel lt1) (trodAll_cons_mk (Below.trod laidOut (by kernel_rfl) (of_decide_eq_true (by kernel_rfl)) k2 bel lt2) trodAll_mk0))), rfl, bel.frame _, fun h => by cases h⟩

theorem over : Rows.lebJoinsRow.holds Try.pinned (OpenSpec.ofChange Rows.lebJoinsSpec) :=
  OpenClaim.holds_of_wide 8 Try.f8 rfl rfl rfl rfl rfl rfl rfl ⟨rfl, rfl, rfl, rfl, rfl⟩ rfl rfl rfl rfl rfl (by kernel_rfl) Try.func8 (by kernel_rfl)
    (of_decide_eq_true (by kernel_rfl)) (by unfold Func.isWrapper; first | (rw [if_pos (by decide +kernel)]; kernel_rfl) | (rw [if_neg (by decide +kernel)]; exact ⟨rfl, rfl⟩))
    (fun os started H enc _ => lifted os started H enc)

theorem proved : Rows.LebJoinsSaid := over
#print axioms proved
end Go.Proofs.Ytkdffblpoelcfaa.lebJoins
