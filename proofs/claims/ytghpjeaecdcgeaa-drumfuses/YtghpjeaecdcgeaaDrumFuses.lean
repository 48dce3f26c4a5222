/- Proved: ligaturelaw4.DrumFuses returns true for every int and slice of acts, and leaves its arguments as they were. No condition. -/
import Derived.Test.YtghpjeaecdcgeaaRows
import Derived.Test.YtghpjeaecdcgeaaDl
import Derived.BigQuiet
import Derived.Deep.QuietTactic
import Derived.Lib.MinMax
import Derived.Deep.DeepCutAuto
import Derived.WalkKit
import Derived.ProofKit
import Derived.OpenShut
import Derived.ShutString
import Derived.ChangeOld
import Derived.Below
namespace Go.Proofs.Ytghpjeaecdcgeaa.drumFuses
open Go.ChangeShapes Go.WideShapes Go.ChangeAt Go.RowKit
open Go.ChangeMaps (open_string shut_string)
set_option linter.unusedVariables false
theorem own : ownKnob Try.prog.godebug = none := by kernel_rfl
theorem laidOut : laidOutB Try.prog = true := by kernel_rfl
def catR (s : DS) : Nat → List UInt8
  | 0 => []
  | k + 1 => catR s k ++ rdL s k
def Inv (z : Nat) (s : DS) (k : Nat) : Prop := (s.life = some (some z) ∨ (s.life = none ∧ z = 0)) ∧ s.now.length = 3 ∧ s.pend.length ≤ k
theorem rd_now {s t : DS} (h : s.now = t.now) (i : Int) : rdL s i = rdL t i := by unfold rdL there; rw [h]
theorem cat_now {s t : DS} (h : s.now = t.now) : ∀ k, catR s k = catR t k
  | 0 => rfl
  | k + 1 => by rw [catR, catR, cat_now h k, rd_now h]
theorem rd_le {s : DS} (h : DOk s) (i : Int) : (rdL s i).length ≤ 64 := by
  unfold rdL
  split
  · rename_i ht
    simp only [there, decide_eq_true_eq] at ht
    rw [getD_at (show i.toNat < s.now.length by omega), h.sec _ (List.getElem_mem _)]
    exact Nat.le_refl _
  · simp
theorem cat_le {s : DS} (h : DOk s) : ∀ k, (catR s k).length ≤ 64 * k
  | 0 => by simp [catR]
  | k + 1 => by
    have := cat_le h k
    have := rd_le h k
    rw [catR, List.length_append]; omega
theorem tick_z {z : Nat} {l : Option (Option Nat)} (h : l = some (some z) ∨ (l = none ∧ z = 0)) : ((tickL l).1 = false ↔ z = 0) ∧ ((tickL l).2 = some (some (z - 1)) ∨ ((tickL l).2 = none ∧ z - 1 = 0)) := by
  rcases h with rfl | ⟨rfl, rfl⟩
  · cases z with
    | zero => simp [tickL]
    | succ z => simp [tickL]
  · simp [tickL]
def Step (z : Nat) (s : DS) (k : Nat) (E : Int) (t : DS) : Prop := (E = 9 ↔ z = 0) ∧ (z = 0 → catR t 3 = catR s 3) ∧ Inv (z - 1) t (k + 1)
theorem step_w {z k : Nat} {s : DS} (h : Inv z s k) (i : Int) (p : List UInt8) : Step z s k (wrE s i p) (wrS s i p) := by
  obtain ⟨h1, h2, h3⟩ := h
  obtain ⟨t1, t2⟩ := tick_z h1
  refine ⟨?_, fun hz => ?_, ?_, (wrS_len s i p).trans h2, Nat.le_trans (wrS_pend s i p) (by omega)⟩
  · cases hr : runsB s with
    | false => simp [wrE, hr]; exact t1.1 hr
    | true =>
      have : ¬ z = 0 := fun e => by have := t1.2 e; unfold runsB at hr; rw [this] at hr; cases hr
      unfold wrE
      rw [hr]
      simp only [if_true]
      split <;> simp [this]
  · have hr : runsB s = false := t1.2 hz
    have : wrS s i p = ticked s := by simp [wrS, hr]
    rw [this]; exact cat_now rfl 3
  · have : (wrS s i p).life = (tickL s.life).2 := by unfold wrS; split <;> rfl
    rw [this]; exact t2
theorem step_s {z k : Nat} {s : DS} (h : Inv z s k) : Step z s k (syE s) (syS s) := by
  obtain ⟨h1, h2, h3⟩ := h
  obtain ⟨t1, t2⟩ := tick_z h1
  refine ⟨?_, fun hz => ?_, ?_, (syS_len s).trans h2, Nat.le_trans (syS_pend s) (by omega)⟩
  · cases hr : runsB s with
    | false => simp [syE, hr]; exact t1.1 hr
    | true =>
      have : ¬ z = 0 := fun e => by have := t1.2 e; unfold runsB at hr; rw [this] at hr; cases hr
      simp [syE, hr, this]
  · have hr : runsB s = false := t1.2 hz
    have : syS s = ticked s := by simp [syS, hr]
    rw [this]; exact cat_now rfl 3
  · have : (syS s).life = (tickL s.life).2 := by unfold syS; split <;> rfl
    rw [this]; exact t2
theorem join {P : Program} {W : World} (x y : List UInt8) (h : (x ++ y).length ≤ 10000000) : (Op.stringOp .add (bstr x) (bstr y)).run P W = .ok (.string (bstr (x ++ y))) W := by
  have := run_string_add_sum (P := P) W (bstr x) (bstr y) (by rw [bstr_size, bstr_size]; rw [List.length_append] at h; omega)
  rw [this, bstr_append]

set_option maxHeartbeats 4000000 in
set_option maxRecDepth 100000 in
theorem walk (a0 : Int) (a1 : Sl ActV) (w : World) (w0 : (Lit.int .i64 a0).wf = true) (w1 : SlA w a1) :
    Calls Try.prog 5 #[.int .i64 a0, slv a1] w fun e w' => e = .returned (.bool true) ∧ Below w.heap.size w w' := by
  obtain ⟨A, l, c⟩ := a1
  have H1 : Hid (SlA w ⟨A, l, c⟩) := w1
  clear w1
  unfold slv
  simp only
  by_cases hbad : a0 < 0 ∨ 20 < a0
  · rcases hbad with h | h
    · go_enter Try.func5, Try.ntmps5
      go_wp2
      go_ret
      exact ⟨rfl, Below.refl _ _⟩
    · have h0 : 0 ≤ a0 := by omega
      go_enter Try.func5, Try.ntmps5
      go_wp2
      go_ret
      exact ⟨rfl, Below.refl _ _⟩
  · obtain ⟨n, rfl⟩ : ∃ n : Nat, a0 = n := ⟨a0.toNat, by omega⟩
    have hn : n ≤ 20 := by omega
    clear hbad
    go_enter Try.func5, Try.ntmps5
    go_wp2_with fail
    refine (long_any A l c H1.out).mono ?_
    rintro e w1 ⟨b, rfl, hb1⟩
    have HB1 := Lib.hid hb1
    clear hb1
    cases b with
    | true =>
      go_wp2
      go_ret
      exact ⟨rfl, HB1.out⟩
    | false =>
      go_wp2_with fail
      refine (new_any 3 w1).mono ?_
      rintro e w2 ⟨a, rfl, hp2, hb2⟩
      have HB2 := Lib.hid (HB1.out.trans (hb2.mono HB1.out.size))
      have HF2 := Lib.hid (nu_ge (F := fun _ => False) (w := w1) (w' := w2) (B := w.heap.size) (fun _ h => absurd h id) HB1.out.size)
      have HP2 := Lib.hid hp2
      clear hp2 hb2
      generalize Nu (fun _ => False) w1 w2 = F2 at *
      go_wp2_with fail
      refine (fuse_any HP2.out (n : Nat) (by omega) (by omega)).mono ?_
      rintro e w3 ⟨rfl, hp3, hc3⟩
      have HB3 := Lib.hid (Chg.of_below HB2.out hc3 HF2.out)
      have HF3 := Lib.hid (nu_ge (F := F2) (w := w2) (w' := w3) (B := w.heap.size) HF2.out HB2.out.size)
      have HP3 := Lib.hid hp3
      have HI : Hid (Inv n (fzS (nwS 3) (n : Nat)) 0) := ⟨.inl (by simp [fzS, fuseL, nwS, fresh]), rfl, Nat.le_refl _⟩
      clear hp3 hc3 HP2 HB2 HF2
      generalize Nu F2 w2 w3 = F3 at *
      generalize fzS (nwS 3) (n : Nat) = s0 at *
      go_wp2
      go_loopw [7, 8] (fun was i wr => ∃ (k : Nat), k ≤ 3 ∧ i = .int .i64 k ∧ was = .string (bstr (catR s0 k)) ∧ Hid (PD F3 wr a s0) ∧ Hid (Below w.heap.size w wr)) (fun _ i _ => 3 - (intOf i).toNat)
      case atStart => exact ⟨0, by omega, rfl, rfl, HP3.out, HB3.out⟩
      case round =>
        obtain ⟨k, hk, rfl, rfl, HP, HB⟩ := hrel
        clear HP3 HB3
        by_cases hlt : k < 3
        · have HJ := Lib.hid (show (catR s0 k ++ rdL s0 k).length ≤ 10000000 by
            have h1 := cat_le HP.out.ok k
            have h2 := rd_le HP.out.ok k
            rw [List.length_append]; omega)
          have hjoin : ∀ W, (Op.stringOp .add (bstr (catR s0 k)) (bstr (rdL s0 k))).run Try.prog W = .ok (.string (bstr (catR s0 (k + 1)))) W := fun W => join _ _ HJ.out
          go_wp2_with fail
          refine (read_any HP.out (k : Nat)).mono ?_
          rintro e w4 ⟨v4, rfl, ho4, hb4⟩
          obtain ⟨A4, c4, rfl, hbs4, _⟩ := ho4.open
          have hcv := hbs4.conv _ rfl
          have HB4 := Lib.hid (HB.out.trans (hb4.mono HB.out.size))
          have HP4 := Lib.hid (HP.out.below hb4)
          clear ho4 hbs4 hb4
          go_wp2
          refine ⟨⟨k + 1, by omega, by go_num, rfl, HP4.out, HB4.out⟩, by simp [intOf]; omega⟩
        · obtain rfl : k = 3 := by omega
          go_wp2
          go_loopw [6, 7, 9] (fun left was i wr => ∃ (k z : Nat) (s : DS) (F : Nat → Prop), k ≤ l.length ∧ k ≤ 60 ∧ z ≤ 20 ∧ i = .int .i64 k ∧ left = .int .i64 z ∧ was = .string (bstr (catR s 3)) ∧ Hid (Inv z s k) ∧ Hid (PD F wr a s) ∧ Hid (∀ j, F j → w.heap.size ≤ j) ∧ Hid (Below w.heap.size w wr)) (fun _ _ i _ => 60 - (intOf i).toNat)
          case atStart => exact ⟨0, n, s0, F3, Nat.zero_le _, by omega, hn, rfl, rfl, rfl, HI.out, HP.out, HF3.out, HB.out⟩
          case round =>
            obtain ⟨k, z, s, F, hkl, hk60, hz20, rfl, rfl, rfl, HI2, HP2, HF2, HB2⟩ := hrel
            clear HP HB HI HF3 hk hlt
            by_cases hlt : k < l.length ∧ k < 60
            · obtain ⟨hlt, h60⟩ := hlt
              obtain ⟨ad, pk, hA, hpk, hin, hat⟩ := act_at H1.out HB2.out (k := k) hlt
              simp only at hA
              subst hA
              have c0 := hin.c0
              have hxb : SlB w l[k].p := hat.bp
              generalize l[k] = x at *
              obtain ⟨kd, xi, ⟨xA, xp, xc⟩, xk⟩ := x
              have c1 := hin.c1
              have c2 := hin.c2
              simp only at c0 c1 c2 hxb
              have HXB : Hid (BS w xA xp xc) := hxb
              have HC1 := Lib.hid c1
              have HC2 := Lib.hid c2
              have HXK := Lib.hid hpk
              clear hin hat hxb
              go_upto_if 54 with fail
              go_cut [10] (fun e wx => ∃ (E : Int) (t : DS) (G : Nat → Prop), e = .int .i64 E ∧ Hid (Step z s k E t) ∧ Hid (PD G wx a t) ∧ Hid (∀ j, G j → w.heap.size ≤ j) ∧ Hid (Below w.heap.size w wx))
              case first =>
                by_cases hkd : kd = 1
                · subst hkd
                  have hw := write_any (w := wr.drew) HP2.out.drew xi xA xp xc (HXB.out.below (HB2.out.trans ((Below.refl _ _).drew)) ) (fun ad e => by
                    by_cases hx : xp = []
                    · exact .inl hx
                    · right
                      intro hf
                      obtain ⟨ad', e', hc⟩ := HXB.out.cells 0 (List.length_pos_iff.2 hx)
                      rw [e] at e'
                      injection e' with e'
                      subst e'
                      have h1 := World.block_lt_of_cell? w _ hc
                      rw [add_block] at h1
                      have h2 := HF2.out _ hf
                      omega) (by have := HI2.out.2.2; omega)
                  have HW := Lib.hid hw
                  have HS := Lib.hid (step_w HI2.out xi xp)
                  clear hw
                  go_wp2_with fail
                  go_still_tail 11, (by kernel_rfl)
                  change wpList _ _ _ _ _ wr.drew
                  go_wp2_with fail
                  refine HW.out.mono ?_
                  rintro e w4 ⟨rfl, hp4, hc4⟩
                  have HP4 := Lib.hid hp4
                  have HB4 := Lib.hid (Chg.of_below (HB2.out.trans (Below.refl _ _).drew) hc4 HF2.out)
                  have HF4 := Lib.hid (nu_ge (F := F) (w := wr.drew) (w' := w4) (B := w.heap.size) HF2.out HB2.out.size)
                  clear hp4 hc4
                  go_wp2
                  go_meet
                  exact ⟨_, _, _, rfl, HS.out, HP4.out, HF4.out, HB4.out⟩
                · have hq : (kd == 1) = false := by simpa using hkd
                  have HS := Lib.hid (step_s HI2.out)
                  clear c1 c2
                  go_wp2_with fail
                  refine (sync_any HP2.out).mono ?_
                  rintro e w4 ⟨rfl, hp4, hc4⟩
                  have HP4 := Lib.hid hp4
                  have HB4 := Lib.hid (Chg.of_below HB2.out hc4 HF2.out)
                  have HF4 := Lib.hid (nu_ge (F := F) (w := wr) (w' := w4) (B := w.heap.size) HF2.out HB2.out.size)
                  clear hp4 hc4
                  go_wp2
                  go_meet
                  exact ⟨_, _, _, rfl, HS.out, HP4.out, HF4.out, HB4.out⟩
              case rest =>
                obtain ⟨E, t, G, rfl, HS, HP, HF, HB⟩ := hcut
                clear c0 c1 c2 HC1 HC2 HXK HXB HP2 HF2 HB2 hpk
                go_upto_region 20 with fail
                go_cut [11] (fun s wx => s = .string (bstr (catR t 3)) ∧ Hid (PD G wx a t) ∧ Hid (Below w.heap.size w wx))
                case first =>
                  have HPd := Lib.hid HP.out.drew
                  have HBd := Lib.hid (HB.out.trans (Below.refl _ _).drew)
                  have HL0 := Lib.hid (rd_le HP.out.ok 0)
                  have HL1 := Lib.hid (rd_le HP.out.ok 1)
                  have HL2 := Lib.hid (rd_le HP.out.ok 2)
                  have hj1 : ∀ W, (Op.stringOp .add (bstr (rdL t 0)) (bstr (rdL t 1))).run Try.prog W = .ok (.string (bstr (rdL t 0 ++ rdL t 1))) W := fun W => join _ _ (by have h0 := HL0.out; have h1 := HL1.out; rw [List.length_append]; omega)
                  have hj2 : ∀ W, (Op.stringOp .add (bstr (rdL t 0 ++ rdL t 1)) (bstr (rdL t 2))).run Try.prog W = .ok (.string (bstr (rdL t 0 ++ rdL t 1 ++ rdL t 2))) W := fun W => join _ _ (by have h0 := HL0.out; have h1 := HL1.out; have h2 := HL2.out; rw [List.length_append, List.length_append]; omega)
                  have HCR := Lib.hid (show catR t 3 = rdL t 0 ++ rdL t 1 ++ rdL t 2 from rfl)
                  go_region_with ((first
                    | (go_at_call 24; with_reducible refine (read_any HPd.out 0).mono ?_; rintro e w5 ⟨v5, rfl, ho5, hb5⟩; obtain ⟨A5, c5, rfl, hbs5, hA5⟩ := ho5.open; have hcv5 := hbs5.conv _ rfl; have HP5 := Lib.hid (HPd.out.below hb5); have HB5 := Lib.hid (HBd.out.trans (hb5.mono HBd.out.size)); have HS5 := Lib.hid hbs5; clear ho5 hb5 hbs5 hA5)
                    | (go_at_call 24; with_reducible refine (read_any HP5.out 1).mono ?_; rintro e w6 ⟨v6, rfl, ho6, hb6⟩; obtain ⟨A6, c6, rfl, hbs6, hA6⟩ := ho6.open; have hcv6 := hbs6.conv _ rfl; have hcv56 := (HS5.out.below hb6).conv _ rfl; have HP6 := Lib.hid (HP5.out.below hb6); have HB6 := Lib.hid (HB5.out.trans (hb6.mono HB5.out.size)); have HS6 := Lib.hid hbs6; have HS56 := Lib.hid (HS5.out.below hb6); clear ho6 hb6 hbs6 hA6)
                    | (go_at_call 24; with_reducible refine (read_any HP6.out 2).mono ?_; rintro e w7 ⟨v7, rfl, ho7, hb7⟩; obtain ⟨A7, c7, rfl, hbs7, hA7⟩ := ho7.open; have hcv7 := hbs7.conv _ rfl; have hcv67 := (HS6.out.below hb7).conv _ rfl; have hcv57 := (HS56.out.below hb7).conv _ rfl; have HP7 := Lib.hid (HP6.out.below hb7); have HB7 := Lib.hid (HB6.out.trans (hb7.mono HB6.out.size)); clear ho7 hb7 hbs7 hA7)))
                  all_goals
                    go_wp2_with fail
                    go_meet
                    exact ⟨by rw [HCR.out, List.append_assoc], HP7.out, HB7.out⟩
                case rest =>
                  obtain ⟨rfl, HP8, HB8⟩ := hcut
                  have hmx : max (0 : Int) ((z : Int) - 1) = ((z - 1 : Nat) : Int) := by omega
                  obtain ⟨hs1, hs2, hs3⟩ := HS.out
                  have HI3 := Lib.hid hs3
                  by_cases hz : z = 0
                  · obtain rfl := hs1.2 hz
                    subst hz
                    rw [hs2 rfl]
                    have HCT := Lib.hid (hs2 rfl)
                    clear hs1 hs2 hs3
                    have hq : ((bstr (catR s 3)).toList == (bstr (catR s 3)).toList) = true := by simp
                    go_wp2
                    refine ⟨⟨k + 1, 0, t, G, by omega, by omega, by omega, by go_num, by go_num, by rw [HCT.out], HI3.out, HP8.out, HF.out, HB8.out⟩, by simp [intOf]; omega⟩
                  · have hE : (E == 9) = false := by simpa using fun e => hz (hs1.1 e)
                    have hzb : ((z : Int) == 0) = false := by simp; omega
                    clear hs1 hs2 hs3
                    go_wp2
                    refine ⟨⟨k + 1, z - 1, t, G, by omega, by omega, by omega, by go_num, by go_num, rfl, HI3.out, HP8.out, HF.out, HB8.out⟩, by simp [intOf]; omega⟩
            · by_cases h60 : k < l.length
              · have h61 : 60 ≤ k := by omega
                go_wp2_with fail
                refine (known_any _).mono ?_
                rintro e w5 ⟨rfl, hb5⟩
                go_wp2
                go_ret
                exact ⟨rfl, HB2.out.trans (hb5.mono HB2.out.size)⟩
              · go_wp2_with fail
                refine (known_any _).mono ?_
                rintro e w5 ⟨rfl, hb5⟩
                go_wp2
                go_ret
                exact ⟨rfl, HB2.out.trans (hb5.mono HB2.out.size)⟩

set_option maxRecDepth 100000 in
theorem lifted (os : Os) (started : os.Started) (H : Type) (enc : TypeId × Value → H) :
    ReturnsInHanded {} Try.checked os 5 .any (Rows.drumFusesSpec.pre6 enc Try.prog Try.f5 Rows.drumFusesRow.domain false) (Rows.drumFusesSpec.post enc Try.prog Try.f5 false true false false) := by
  refine returnsInHanded_of_change (C := Try.checked) own started (by kernel_rfl) Try.func5
    (ChangeSpec.witness6 (enc := enc) (C := Try.checked) false ⟨#[], #[.int .i64 0, .slice none 0 0], []⟩ 8 (by kernel_rfl) (by kernel_rfl) (by kernel_rfl) (by kernel_rfl)) ?_
  intro W base args ds gs before hval0 hW hcnd _
  have hval : ∀ (j : Nat) t v, Try.f5.params[j]? = some t → args[j]? = some v → Value.okWide Try.prog W .any base t v := hval0
  have hW' := hW
  obtain ⟨p, q, hA0, hV, rfl, hfz, hnd⟩ := hW
  have hA : DataW.TrodAll enc Try.prog W 0 (fun _ => true) true Try.f5.params.toList args.toList ds p := hA0
  rw [Try.params5] at hA hval
  obtain ⟨v0, vs0, d0, ds0, p0, q0, hargs, rfl, rfl, h0, r0⟩ := trodAll_cons hA
  obtain ⟨v1, vs1, d1, ds1, p1, q1, rfl, rfl, rfl, h1, r1⟩ := trodAll_cons r0
  obtain ⟨rfl, rfl, rfl⟩ := trodAll_nil r1
  obtain rfl : args = #[v0, v1] := by cases args; simp_all
  obtain ⟨rfl, rfl⟩ := trodVars_none hV
  obtain ⟨a0, rfl, rfl, rfl, w0⟩ := open_int Try.underlying3 (hval 0 3 v0 rfl rfl) h0
  have k1 := h1
  have lt1 : ∀ x ∈ p1, x.block < W.heap.size := by obtain ⟨m, hm⟩ := k1; exact DataW.trod_lt m _ _ _ hm
  obtain ⟨a1, rfl, w1⟩ := open_acts (hval 1 22 v1 rfl rfl) h1
  clear hA0 hval0
  refine (walk a0 a1 W w0 w1).mono fun e W' ⟨he, bel⟩ => ?_
  subst he
  exact ⟨_, rfl, _, _, _, [], _, [], hW', trodAll_mk1 (shut_bool Try.underlying4 _), (trodAll_cons_mk (shut_int Try.underlying3 w0) (trodAll_cons_mk (Below.trod laidOut (by kernel_rfl) (of_decide_eq_true (by kernel_rfl)) k1 bel lt1) trodAll_mk0)), rfl, bel.frame _, fun h => by cases h⟩

theorem over : Rows.drumFusesRow.holds Try.pinned (OpenSpec.ofChange Rows.drumFusesSpec) :=
  OpenClaim.holds_of_wide 5 Try.f5 rfl rfl rfl rfl rfl rfl rfl ⟨rfl, rfl, rfl, rfl, rfl⟩ rfl rfl rfl rfl rfl (by kernel_rfl) Try.func5 (by kernel_rfl)
    (of_decide_eq_true (by kernel_rfl)) (by unfold Func.isWrapper; first | (rw [if_pos (by decide +kernel)]; kernel_rfl) | (rw [if_neg (by decide +kernel)]; exact ⟨rfl, rfl⟩))
    (fun os started H enc _ => lifted os started H enc)

theorem proved : Rows.DrumFusesSaid := over
#print axioms proved
end Go.Proofs.Ytghpjeaecdcgeaa.drumFuses
