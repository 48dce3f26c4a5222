/- Proved: ligaturelaw4.DrumPlays returns true for every int and slice of acts, and leaves its arguments as they were. No condition. -/
import Derived.Test.YtghpjeaecdcgeaaRows
import Derived.Test.YtghpjeaecdcgeaaRl
import Derived.Deep.RegionHeld3
import Derived.WalkKit
import Derived.ProofKit
import Derived.OpenShut
import Derived.ShutString
import Derived.ChangeOld
import Derived.Below
namespace Go.Proofs.Ytghpjeaecdcgeaa.drumPlays
open Go.ChangeShapes Go.WideShapes Go.ChangeAt Go.RowKit
open Go.ChangeMaps (open_string shut_string)
set_option linter.unusedVariables false
theorem own : ownKnob Try.prog.godebug = none := by kernel_rfl
theorem laidOut : laidOutB Try.prog = true := by kernel_rfl

set_option maxHeartbeats 8000000 in
set_option maxRecDepth 100000 in
theorem walk (a0 : Int) (a1 : Sl ActV) (w : World) (w0 : (Lit.int .i64 a0).wf = true) (w1 : SlA w a1) :
    Calls Try.prog 3 #[.int .i64 a0, slv a1] w fun e w' => e = .returned (.bool true) ∧ Below w.heap.size w w' := by
  obtain ⟨A, l, c⟩ := a1
  have H1 : Hid (SlA w ⟨A, l, c⟩) := w1
  obtain ⟨n0, n1⟩ := wf64 w0
  clear w1 w0
  unfold slv
  simp only
  go_enter Try.func3, Try.ntmps3
  go_wp2_with fail
  refine (long_any A l c H1.out).mono ?_
  rintro e w1 ⟨bb, rfl, hb1⟩
  have HB1 := Lib.hid hb1
  clear hb1
  cases bb with
  | true =>
    go_wp2
    go_ret
    exact ⟨rfl, HB1.out⟩
  | false =>
    by_cases hbig : 20 < a0
    · go_wp2
      go_ret
      exact ⟨rfl, HB1.out⟩
    · go_wp2_with fail
      refine (new_any a0 w1).mono ?_
      rintro e w2 ⟨a, rfl, hp2, hb2⟩
      have HP2 := Lib.hid hp2
      have HB2 := Lib.hid hb2
      clear hp2 hb2
      go_wp2_with fail
      refine (rnew_any a0 n0 n1 w2).mono ?_
      rintro e w3 ⟨b, rfl, hr3, hb3⟩
      have HT := Lib.hid (two_new HB1.out HP2.out HB2.out hr3 hb3)
      have HPN : Hid ((nwS a0).pend.length ≤ 0) := Nat.le_refl _
      clear hr3 hb3 HP2 HB2 HB1
      generalize Nu (fun _ => False) w1 w2 = F0 at *
      generalize Nu (fun _ => False) w2 w3 = G0 at *
      generalize nwS a0 = s0 at *
      go_wp2
      go_loopw [5, 6, 7] (fun d x i wr => ∃ (k a b : Nat) (s : DS) (F G : Nat → Prop), k ≤ l.length ∧ k ≤ 60 ∧ d = .pointer (some ⟨a, 0, none⟩) ∧ x = .pointer (some ⟨b, 0, none⟩) ∧ i = .int .i64 k ∧ Hid (s.pend.length ≤ k) ∧ Hid (Two w wr a b s s F G)) (fun _ _ i _ => 60 - (intOf i).toNat)
      case atStart => exact ⟨0, a, b, s0, F0, G0, Nat.zero_le _, by omega, rfl, rfl, rfl, HPN.out, HT.out⟩
      case round =>
        clear HT HPN
        obtain ⟨k, a, b, s, F, G, hkl, hk60, rfl, rfl, rfl, HPN, HT⟩ := hrel
        by_cases hlt : k < l.length ∧ k < 60
        · obtain ⟨hlt, h60⟩ := hlt
          obtain ⟨ad, pk, hA, hpk, hin, hat⟩ := act_at H1.out HT.out.bl (k := k) hlt
          simp only at hA
          subst hA
          have hxb : SlB w l[k].p := hat.bp
          have hxk : SlT w l[k].keep := hat.bk
          have hxw := hat.wi
          generalize l[k] = x at *
          obtain ⟨kd, xi, ⟨xA, xp, xc⟩, ⟨xK, xk, xkc⟩⟩ := x
          have c0 := hin.c0
          have c1 := hin.c1
          have c2 := hin.c2
          have c3 := hin.c3
          have HIN : Hid (∀ W, Below w.heap.size w W → W.cell? ⟨pk.block, pk.off + 1, none⟩ = some (.int .i64 xi) ∧ W.cell? ⟨pk.block, pk.off + 2, none⟩ = some (.slice xA xp.length xc) ∧ W.cell? ⟨pk.block, pk.off + 3, none⟩ = some (.slice xK xk.length xkc)) := fun W hW => ⟨(hat.in hW).c1, (hat.in hW).c2, (hat.in hW).c3⟩
          simp only at c0 c1 c2 c3 hxb hxk hxw
          obtain ⟨x0, x1⟩ := wf64 hxw
          have HXB : Hid (BS w xA xp xc) := hxb
          have HXK : Hid (Row .bool w xK xk) := hxk
          clear hin hat hxb hxk hxw
          by_cases hk1 : kd = 1
          · subst hk1
            have HTd := Lib.hid HT.out.drew
            have hS0 := HIN.out _ HTd.out.bl
            have HW := Lib.hid (write_any HTd.out.pd xi xA xp xc (HXB.out.below HTd.out.bl) (arg_apart HXB.out HTd.out.fF) (by have := HPN.out; omega))
            have HPN2 := Lib.hid (show (wrS s xi xp).pend.length ≤ k + 1 from Nat.le_trans (wrS_pend s xi xp) (by have := HPN.out; omega))
            have HP1000 : Hid (s.pend.length ≤ 1000) := by have := HPN.out; simp only [Hid]; omega
            clear c3
            go_wp2_with fail
            go_region_held3 (fun W => W.cell? ⟨pk.block, pk.off + 1, none⟩ = some (.int .i64 xi) ∧ W.cell? ⟨pk.block, pk.off + 2, none⟩ = some (.slice xA xp.length xc) ∧ W.cell? ⟨pk.block, pk.off + 3, none⟩ = some (.slice xK xk.length xkc))
              (first | exact hS0 | exact hS4 | exact hS5)
              (first
                | (go_at_call 14; refine (rwrite_any HT4.out.rd xi xA xp xc (HXB.out.below HT4.out.bl) (arg_apart HXB.out HT4.out.fG) HP1000.out).mono ?_; rintro e w5 ⟨rfl, hp5, hc5⟩; have HT5 := Lib.hid (HT4.out.right hp5 hc5); have hS5 := HIN.out _ HT5.out.bl; clear hp5 hc5)
                | (go_at_call 13; refine HW.out.mono ?_; rintro e w4 ⟨rfl, hp4, hc4⟩; have HT4 := Lib.hid (HTd.out.left hp4 hc4); have hS4 := HIN.out _ HT4.out.bl; clear hp4 hc4))
            clear hS0 hS4 hS5 c0 c1 c2 HW
            go_wp2_with fail
            refine (alike_any HT5.out.pd HT5.out.rd).mono ?_
            rintro e w6 ⟨rfl, hb6⟩
            have HT6 := Lib.hid (HT5.out.below hb6)
            clear hb6 HT5
            go_wp2
            refine ⟨⟨k + 1, _, _, _, _, _, by omega, by omega, rfl, rfl, by go_num, HPN2.out, HT6.out⟩, by simp [intOf]; omega⟩
          · have hq1 : (kd == 1) = false := by simpa using hk1
            by_cases hk2 : kd = 2
            · subst hk2
              have HPN2 := Lib.hid (show (syS s).pend.length ≤ k + 1 from Nat.le_trans (syS_pend s) (by have := HPN.out; omega))
              clear c1 c2 c3
              go_wp2_with fail
              refine (sync_any HT.out.pd).mono ?_
              rintro e w4 ⟨rfl, hp4, hc4⟩
              have HT4 := Lib.hid (HT.out.left hp4 hc4)
              clear hp4 hc4
              go_wp2_with fail
              refine (rsync_any HT4.out.rd).mono ?_
              rintro e w5 ⟨rfl, hp5, hc5⟩
              have HT5 := Lib.hid (HT4.out.right hp5 hc5)
              clear hp5 hc5
              go_wp2_with fail
              refine (alike_any HT5.out.pd HT5.out.rd).mono ?_
              rintro e w6 ⟨rfl, hb6⟩
              have HT6 := Lib.hid (HT5.out.below hb6)
              clear hb6 HT5
              go_wp2
              refine ⟨⟨k + 1, _, _, _, _, _, by omega, by omega, rfl, rfl, by go_num, HPN2.out, HT6.out⟩, by simp [intOf]; omega⟩
            · have hq2 : (kd == 2) = false := by simpa using hk2
              by_cases hk3 : kd = 3
              · subst hk3
                have HPN2 : Hid ((fzS s xi).pend.length ≤ k + 1) := by have := HPN.out; simp only [Hid, fzS]; omega
                clear c2 c3
                go_wp2_with fail
                refine (fuse_any HT.out.pd xi x0 x1).mono ?_
                rintro e w4 ⟨rfl, hp4, hc4⟩
                have HT4 := Lib.hid (HT.out.left hp4 hc4)
                have d1 := (HIN.out _ HT4.out.bl).1
                clear hp4 hc4
                go_wp2_with fail
                refine (rfuse_any HT4.out.rd xi x0 x1).mono ?_
                rintro e w5 ⟨rfl, hp5, hc5⟩
                have HT5 := Lib.hid (HT4.out.right hp5 hc5)
                clear hp5 hc5 d1
                go_wp2_with fail
                refine (alike_any HT5.out.pd HT5.out.rd).mono ?_
                rintro e w6 ⟨rfl, hb6⟩
                have HT6 := Lib.hid (HT5.out.below hb6)
                clear hb6 HT5
                go_wp2
                refine ⟨⟨k + 1, _, _, _, _, _, by omega, by omega, rfl, rfl, by go_num, HPN2.out, HT6.out⟩, by simp [intOf]; omega⟩
              · have hq3 : (kd == 3) = false := by simpa using hk3
                have HTd := Lib.hid HT.out.drew
                have hS0 := HIN.out _ HTd.out.bl
                have HP1000 : Hid (s.pend.length ≤ 1000) := by have := HPN.out; simp only [Hid]; omega
                have HC := Lib.hid (crash_any HTd.out.pd xK xk xkc (row_below HXK.out HTd.out.bl) HP1000.out)
                have HPN2 : Hid ((crS s xk).pend.length ≤ k + 1) := Nat.zero_le _
                clear c1 c2
                go_wp2_with fail
                go_region_held3 (fun W => W.cell? ⟨pk.block, pk.off + 1, none⟩ = some (.int .i64 xi) ∧ W.cell? ⟨pk.block, pk.off + 2, none⟩ = some (.slice xA xp.length xc) ∧ W.cell? ⟨pk.block, pk.off + 3, none⟩ = some (.slice xK xk.length xkc))
                  (first | exact hS0 | exact hS4 | exact hS5)
                  (first
                    | (go_at_call 19; refine HC.out.mono ?_; rintro e w4 ⟨a4, rfl, hp4, hb4⟩; have HT4 := Lib.hid (HTd.out.newL hp4 hb4); have hS4 := HIN.out _ HT4.out.bl; clear hp4 hb4)
                    | (go_at_call 20; refine (rcrash_any HT4.out.rd xK xk xkc (row_below HXK.out HT4.out.bl) HP1000.out).mono ?_; rintro e w5 ⟨b5, rfl, hp5, hb5⟩; have HT5 := Lib.hid (HT4.out.newR hp5 hb5); have hS5 := HIN.out _ HT5.out.bl; clear hp5 hb5))
                clear hS0 hS4 hS5 c0 c3 HC
                go_wp2_with fail
                refine (alike_any HT5.out.pd HT5.out.rd).mono ?_
                rintro e w6 ⟨rfl, hb6⟩
                have HT6 := Lib.hid (HT5.out.below hb6)
                clear hb6 HT5
                go_wp2
                refine ⟨⟨k + 1, _, _, _, _, _, by omega, by omega, rfl, rfl, by go_num, HPN2.out, HT6.out⟩, by simp [intOf]; omega⟩
        · by_cases h60 : k < l.length
          · have h61 : 60 ≤ k := by omega
            go_wp2_with fail
            refine (known_any _).mono ?_
            rintro e w5 ⟨rfl, hb5⟩
            go_wp2
            go_ret
            exact ⟨rfl, HT.out.bl.trans (hb5.mono HT.out.bl.size)⟩
          · go_wp2_with fail
            refine (known_any _).mono ?_
            rintro e w5 ⟨rfl, hb5⟩
            go_wp2
            go_ret
            exact ⟨rfl, HT.out.bl.trans (hb5.mono HT.out.bl.size)⟩

set_option maxRecDepth 100000 in
theorem lifted (os : Os) (started : os.Started) (H : Type) (enc : TypeId × Value → H) :
    ReturnsInHanded {} Try.checked os 3 .any (Rows.drumPlaysSpec.pre6 enc Try.prog Try.f3 Rows.drumPlaysRow.domain false) (Rows.drumPlaysSpec.post enc Try.prog Try.f3 false true false false) := by
  refine returnsInHanded_of_change (C := Try.checked) own started (by kernel_rfl) Try.func3
    (ChangeSpec.witness6 (enc := enc) (C := Try.checked) false ⟨#[], #[.int .i64 0, .slice none 0 0], []⟩ 8 (by kernel_rfl) (by kernel_rfl) (by kernel_rfl) (by kernel_rfl)) ?_
  intro W base args ds gs before hval0 hW hcnd _
  have hval : ∀ (j : Nat) t v, Try.f3.params[j]? = some t → args[j]? = some v → Value.okWide Try.prog W .any base t v := hval0
  have hW' := hW
  obtain ⟨p, q, hA0, hV, rfl, hfz, hnd⟩ := hW
  have hA : DataW.TrodAll enc Try.prog W 0 (fun _ => true) true Try.f3.params.toList args.toList ds p := hA0
  rw [Try.params3] at hA hval
  obtain ⟨v0, vs0, d0, ds0, p0, q0, hargs, rfl, rfl, h0, r0⟩ := trodAll_cons hA
  obtain ⟨v1, vs1, d1, ds1, p1, q1, rfl, rfl, rfl, h1, r1⟩ := trodAll_cons r0
  obtain ⟨rfl, rfl, rfl⟩ := trodAll_nil r1
  obtain rfl : args = #[v0, v1] := by cases args; simp_all
  obtain ⟨rfl, rfl⟩ := trodVars_none hV
  obtain ⟨a0, rfl, rfl, rfl, w0⟩ := open_int Try.underlying3 (hval 0 3 v0 rfl rfl) h0
  have k1 := h1
  have lt1 : ∀ x ∈ p1, x.block < W.heap.size := by obtain ⟨m, hm⟩ := k1; exact DataW.trod_lt m _ _ _ hm
  obtain ⟨a1, rfl, w1⟩ := open_acts (hval 1 22 v1 rfl rfl) h1
  clear hA0 hval0
  refine (walk a0 a1 W w0 w1).mono fun e W' ⟨he, bel⟩ => ?_
  subst he
  exact ⟨_, rfl, _, _, _, [], _, [], hW', trodAll_mk1 (shut_bool Try.underlying4 _), (trodAll_cons_mk (shut_int Try.underlying3 w0) (trodAll_cons_mk (Below.trod laidOut (by kernel_rfl) (of_decide_eq_true (by kernel_rfl)) k1 bel lt1) trodAll_mk0)), rfl, bel.frame _, fun h => by cases h⟩

theorem over : Rows.drumPlaysRow.holds Try.pinned (OpenSpec.ofChange Rows.drumPlaysSpec) :=
  OpenClaim.holds_of_wide 3 Try.f3 rfl rfl rfl rfl rfl rfl rfl ⟨rfl, rfl, rfl, rfl, rfl⟩ rfl rfl rfl rfl rfl (by kernel_rfl) Try.func3 (by kernel_rfl)
    (of_decide_eq_true (by kernel_rfl)) (by unfold Func.isWrapper; first | (rw [if_pos (by decide +kernel)]; kernel_rfl) | (rw [if_neg (by decide +kernel)]; exact ⟨rfl, rfl⟩))
    (fun os started H enc _ => lifted os started H enc)

theorem proved : Rows.DrumPlaysSaid := over
#print axioms proved
end Go.Proofs.Ytghpjeaecdcgeaa.drumPlays
