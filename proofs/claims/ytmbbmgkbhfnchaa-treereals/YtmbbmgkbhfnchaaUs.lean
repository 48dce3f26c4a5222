/- ligaturelaw9.TreeBack, walked: it returns true for every slice of acts and any entry. Conditions: the contracts of Prog9; the entry came in. -/
import Derived.Test.YtmbbmgkbhfnchaaUk
import Derived.Test.YtmbbmgkbhfnchaaUl
namespace Go.Proofs.Ytmbbmgkbhfnchaa
set_option maxRecDepth 100000
set_option linter.unusedVariables false
open Go.ChangeShapes Go.WideShapes Go.ChangeAt Go.RowKit
open Fl (S)
open Val (V cmpV cmpI isB)
theorem cell_eq {w w' : World} {p : Addr} (h : w'.heap[p.block]? = w.heap[p.block]?) : w'.cell? p = w.cell? p := by unfold World.cell?; rw [h]
theorem EAt.eq {w w' : World} {p : Addr} {x : En} (h : EAt w p x) (e : w'.heap[p.block]? = w.heap[p.block]?) : EAt w' p x :=
  ⟨(cell_eq e).trans h.c0, (cell_eq (p := ⟨p.block, _, none⟩) e).trans h.c1, (cell_eq (p := ⟨p.block, _, none⟩) e).trans h.c2, (cell_eq (p := ⟨p.block, _, none⟩) e).trans h.c3, (cell_eq (p := ⟨p.block, _, none⟩) e).trans h.c4, (cell_eq (p := ⟨p.block, _, none⟩) e).trans h.c5⟩
section
variable {PT : (Nat → Prop) → World → Nat → List En → Prop} {w wr : World} {a : Nat} {I : List En}
/-- All, and what it returned stays as it is while the Tree is changed. -/
theorem s9_keep (hP : Prog9 PT) (h : S9 PT noG9 w wr a I) (hl : I.length ≤ 100000) : Calls Try.prog 17 #[.pointer (some ⟨a, 0, none⟩)] wr fun e w' => ∃ A c G, e = .returned (.slice A I.length c) ∧ S9 PT G w w' a I ∧ ∀ W, Keep9 G w' W → ERow W A I := by
  obtain ⟨F, h1, h2, h3, h4⟩ := h
  refine (hP.allF h1 hl).mono ?_
  rintro e w' ⟨A, c, rfl, hr, hn, hb⟩
  refine ⟨A, c, fun k => ∃ ad, A = some ad ∧ k = ad.block ∧ 0 < I.length, rfl, ⟨F, hP.same h1 (fun _ h => h) (fun k hk => Nat.lt_of_lt_of_le (hP.lt h1 k hk) hb.size) (fun k hk => hb.block k (hP.lt h1 k hk)), fun k hk => ⟨?_, (h2 k hk).2⟩, ?_, h4.trans (hb.mono h4.size)⟩, ?_⟩
  · rintro ⟨ad, e1, e2, e3⟩
    rcases hn ad e1 with h | h
    · rw [h] at e3; cases e3
    · have := hP.lt h1 k hk; omega
  · rintro k ⟨ad, e1, rfl, e3⟩
    obtain ⟨ad', pk, e4, e5, e6⟩ := hr 0 e3
    rw [e1] at e4
    injection e4 with e4
    subst e4; subst e5
    have := World.block_lt_of_cell? w' _ e6.c0
    rwa [add_block] at this
  · intro W hk j hj
    obtain ⟨ad, pk, e4, e5, e6⟩ := hr j hj
    refine ⟨ad, pk, e4, e5, e6.eq ?_⟩
    subst e5
    rw [add_block]
    exact hk.2 _ ⟨ad, e4, rfl, by omega⟩
theorem insE_same {L : List En} {x : En} (h : hasE L x = true) : insE L x = L := by unfold insE; rw [if_pos h]
theorem delE_same {L : List En} {x : En} (h : hasE L x = false) : delE L x = L := by unfold delE; rw [h]; rfl
theorem keep9_below {G : Nat → Prop} {w0 w' : World} {L : List En} (h : S9 PT G w wr a L) (k : Keep9 G w0 wr) (hb : Below wr.heap.size wr w') : Keep9 G w0 w' := by
  obtain ⟨F, h1, h2, h3, h4⟩ := h
  exact ⟨Nat.le_trans k.1 hb.size, fun j hj => (hb.block j (h3 j hj)).trans (k.2 j hj)⟩
set_option maxHeartbeats 8000000 in
theorem back9_any (hP : Prog9 PT) {w : World} (A : Option Addr) (l : List Act9) (cp : Nat) (hs : SlK9 w ⟨A, l, cp⟩) (x : En) (hok : VOk x.v) :
    Calls Try.prog 5 #[.slice A l.length cp, ev x] w fun e w' => e = .returned (.bool true) ∧ Below w.heap.size w w' := by
  have HP := Lib.hid hP
  have HS := Lib.hid hs
  have HL := Lib.hid (fun W => ris_any x.v hok.t W)
  have HF := Lib.hid hok.f
  have HV := Lib.hid ((Below.refl w.heap.size w).alloc (Nat.le_refl _) (.cells #[.int .i64 x.v.k, .bool x.v.b, .int .i64 x.v.n, .float .f64 x.v.f, .string x.v.t, .int .i64 x.i] 34))
  have HC := Lib.hid (fun W (hb : Below (w.alloc (.cells #[.int .i64 x.v.k, .bool x.v.b, .int .i64 x.v.n, .float .f64 x.v.f, .string x.v.t, .int .i64 x.i] 34)).heap.size (w.alloc (.cells #[.int .i64 x.v.k, .bool x.v.b, .int .i64 x.v.n, .float .f64 x.v.f, .string x.v.t, .int .i64 x.i] 34)) W) => eat6 ((box_entry w x).below hb))
  have HM := Lib.hid (fun W (hb : Below w.heap.size w W) => may9_all A l cp (hs.below hb))
  clear hs hP hok
  obtain ⟨⟨xk, xb, xn, xf, xt⟩, xi⟩ := x
  simp only at HL HF HV HC
  obtain ⟨c0, c1, c2, c3, c4, c5⟩ := HC.out _ (Below.refl _ _)
  cases hm : (decide (l.length ≤ 10000) && mayB l) with
  | false =>
    rw [hm] at HM
    clear hm
    go_enter Try.func5, Try.ntmps5
    go_wp2_with (go_at_call 9; (with_reducible refine (HM.out _ HV.out).mono ?_); rintro e w0 ⟨rfl, hb⟩; have B0 := Lib.hid hb; obtain ⟨c0, c1, c2, c3, c4, c5⟩ := HC.out _ B0.out; clear hb)
    go_ret
    exact ⟨rfl, bnext HV.out B0.out⟩
  | true =>
  rw [hm] at HM
  have hlen : l.length ≤ 10000 := by
    rw [Bool.and_eq_true] at hm; exact of_decide_eq_true hm.1
  have HMB := Lib.hid (show mayB l = true by rw [Bool.and_eq_true] at hm; exact hm.2)
  clear hm
  cases hl1 : isB ⟨xk, xb, xn, xf, xt⟩ with
  | false =>
    simp only [hl1] at HL
    clear hl1
    go_enter Try.func5, Try.ntmps5
    go_wp2_with (first | (go_at_call 21; (with_reducible refine (HL.out _).mono ?_); rintro e wl ⟨rfl, hb⟩; have B1 := Lib.hid (bnext B0.out hb); clear hb) | (go_at_call 9; (with_reducible refine (HM.out _ HV.out).mono ?_); rintro e w0 ⟨rfl, hb⟩; have B0 := Lib.hid hb; obtain ⟨c0, c1, c2, c3, c4, c5⟩ := HC.out _ B0.out; clear hb))
    go_ret
    exact ⟨rfl, bnext HV.out B1.out⟩
  | true =>
    have HX : Hid (EOk ⟨⟨xk, xb, xn, xf, xt⟩, xi⟩) := ⟨hl1, HF.out⟩
    simp only [hl1] at HL
    clear hl1
    have HN := Lib.hid (fun W (hb : Below (w.alloc (.cells #[.int .i64 xk, .bool xb, .int .i64 xn, .float .f64 xf, .string xt, .int .i64 xi] 34)).heap.size (w.alloc (.cells #[.int .i64 xk, .bool xb, .int .i64 xn, .float .f64 xf, .string xt, .int .i64 xi] 34)) W) => s9_new (G := noG9) HP.out hb (fun k hk => hk.elim))
    have DK := Lib.hid (known9_any HP.out)
    go_enter Try.func5, Try.ntmps5
    go_wp2_with (first
      | (go_at_call 10; (with_reducible refine (HN.out _ B1.out).mono ?_); rintro e w1 ⟨a, rfl, h1, hb1⟩; have H1 := Lib.hid h1; clear h1 hb1)
      | (go_at_call 21; (with_reducible refine (HL.out _).mono ?_); rintro e wl ⟨rfl, hb⟩; have B1 := Lib.hid (bnext B0.out hb); clear hb)
      | (go_at_call 9; (with_reducible refine (HM.out _ HV.out).mono ?_); rintro e w0 ⟨rfl, hb⟩; have B0 := Lib.hid hb; obtain ⟨c0, c1, c2, c3, c4, c5⟩ := HC.out _ B0.out; clear hb))
    clear HN HM HL c0 c1 c2 c3 c4 c5
    go_loopw [6] (fun i wr => ∃ (k : Nat) (I : List En), k ≤ l.length ∧ k ≤ 120 ∧ i = .int .i64 (k : Nat) ∧ Hid (I.length ≤ k) ∧ Hid (S9 PT noG9 (w.alloc (.cells #[.int .i64 xk, .bool xb, .int .i64 xn, .float .f64 xf, .string xt, .int .i64 xi] 34)) wr a I)) (fun i _ => 120 - (intOf i).toNat)
    case atStart => exact ⟨0, [], Nat.zero_le _, by omega, rfl, Nat.le_refl _, H1.out⟩
    case round =>
      obtain ⟨k, I, hk, hk120, rfl, HI, HD⟩ := hrel
      clear H1
      by_cases hlt : k < l.length ∧ k < 120
      · obtain ⟨hl1, hl2⟩ := hlt
        obtain ⟨ad, pk, hA, hpk, hok, hcc⟩ := act9_at HS.out (k := k) hl1
        simp only at hA hcc hpk hok
        have HY : Hid (EOk l[k].x) := ⟨mayB_at HMB.out hl1 hl2, hok.f⟩
        clear hok
        subst hA
        obtain ⟨y, hy⟩ : ∃ y, y = l[k] := ⟨_, rfl⟩
        rw [← hy] at hcc HY
        clear hy
        obtain ⟨kd, y⟩ := y
        simp only at HY
        obtain ⟨e0, e1, e2, e3, e4, e5, e6⟩ := hcc wr (bnext HV.out HD.out.all)
        clear hcc
        have C1 := Lib.hid (s9_add HP.out HD.out y HY.out (by have := HI.out; omega))
        have HJ : Hid ((insE I y).length ≤ I.length + 1) := by simp only [Hid]; rw [insE_len]; split <;> omega
        clear HY
        generalize insE I y = I2 at *
        obtain ⟨⟨yk, yb, yn, yf, yt⟩, yi⟩ := y
        simp only at e0 e1 e2 e3 e4 e5 e6
        go_wp2_with (go_at_call 11; (with_reducible refine C1.out.mono ?_); rintro e w2 ⟨rfl, h2, _⟩; have H2 := Lib.hid h2; clear h2)
        exact ⟨⟨k + 1, I2, by omega, by omega, by go_num, (by simp only [Hid]; have h1 := HJ.out; have h2 := HI.out; omega), H2.out⟩, by simp [intOf]; omega⟩
      · have hend : ¬ k < l.length ∨ (k < l.length ∧ k = 120) := by omega
        have hI : I.length ≤ 120 := by have := HI.out; omega
        have HA := Lib.hid (s9_keep HP.out HD.out (by omega))
        have HSR := Lib.hid (HD.out.srt HP.out)
        have HXL := Lib.hid (fun (G : Nat → Prop) (L : List En) (hL : L.length ≤ 121) W (h : S9 PT G (w.alloc (.cells #[.int .i64 xk, .bool xb, .int .i64 xn, .float .f64 xf, .string xt, .int .i64 xi] 34)) W a L) => And.intro (s9_add HP.out h ⟨⟨xk, xb, xn, xf, xt⟩, xi⟩ HX.out (by omega)) (And.intro (s9_del HP.out h ⟨⟨xk, xb, xn, xf, xt⟩, xi⟩ HX.out (by omega)) (And.intro (s9_len HP.out h (by omega)) (s9_all HP.out h (by omega)))))
        have HCX := Lib.hid (fun (G : Nat → Prop) (L : List En) W (h : S9 PT G (w.alloc (.cells #[.int .i64 xk, .bool xb, .int .i64 xn, .float .f64 xf, .string xt, .int .i64 xi] 34)) W a L) => HC.out W h.all)
        clear hlt HC HI
        cases hh : hasE I ⟨⟨xk, xb, xn, xf, xt⟩, xi⟩ with
        | true =>
          have HD1 := Lib.hid (has_del HSR.out HX.out)
          have hdl := delE_len I ⟨⟨xk, xb, xn, xf, xt⟩, xi⟩
          rw [hh, if_pos rfl] at hdl
          have HAD := Lib.hid (fun G W h => (HXL.out G I (by omega) W h).1)
          have HDE := Lib.hid (fun G W h => (HXL.out G I (by omega) W h).2.1)
          have HDF := Lib.hid (fun G W h => (HXL.out G (delE I ⟨⟨xk, xb, xn, xf, xt⟩, xi⟩) (by omega) W h).2.1)
          have HLE := Lib.hid (fun G W h => (HXL.out G (delE I ⟨⟨xk, xb, xn, xf, xt⟩, xi⟩) (by omega) W h).2.2.1)
          rw [hh, insE_same hh] at HAD
          rw [hh] at HDE
          rw [HD1.out, delE_same HD1.out] at HDF
          generalize delE I ⟨⟨xk, xb, xn, xf, xt⟩, xi⟩ = D at *
          obtain ⟨n, hn⟩ : ∃ n, I.length = n + 1 := ⟨D.length, by omega⟩
          obtain hm : D.length = n := by omega
          rw [hn] at HA
          rw [hm] at HLE
          have hn9 : n ≤ 120 := by omega
          clear hdl HXL hh HD1 HX hn hm hI
          rcases hend with h1 | ⟨h1, h2⟩
          case' inr => subst h2
          all_goals (
            go_wp2_with (first
              | (go_at_call 20; (with_reducible refine (DK.out _).mono ?_); rintro e w9 ⟨rfl, hb⟩; have B9 := Lib.hid (bnext B8.out hb); clear hb)
              | (go_at_call 18; (with_reducible refine (HLE.out _ _ H7.out).mono ?_); rintro e w8 ⟨rfl, hb⟩; have B8 := Lib.hid (bnext H7.out.all hb); clear hb)
              | (go_at_call 13; have _ := H6; (with_reducible refine (HDF.out _ _ H6.out).mono ?_); rintro e w7 ⟨rfl, h7, _⟩; have H7 := Lib.hid h7; clear h7)
              | (go_at_call 13; (with_reducible refine (HDE.out _ _ H5.out).mono ?_); rintro e w6 ⟨rfl, h6, _⟩; have H6 := Lib.hid h6; obtain ⟨c0, c1, c2, c3, c4, c5⟩ := HCX.out _ _ _ h6; clear h6)
              | (go_at_call 11; (with_reducible refine (HAD.out _ _ H4.out).mono ?_); rintro e w5 ⟨rfl, h5, _⟩; have H5 := Lib.hid h5; obtain ⟨c0, c1, c2, c3, c4, c5⟩ := HCX.out _ _ _ h5; clear h5)
              | (go_at_call 17; (with_reducible refine HA.out.mono ?_); rintro e w4 ⟨A4, q4, G4, rfl, h4, hk4⟩; have H4 := Lib.hid h4; obtain ⟨c0, c1, c2, c3, c4, c5⟩ := HCX.out _ _ _ h4; clear h4 hk4))
            go_ret
            exact ⟨rfl, bnext HV.out B9.out⟩)
        | false =>
          obtain ⟨_, hin, hde⟩ := atE_ins HX.out hh
          have hil := insE_len I ⟨⟨xk, xb, xn, xf, xt⟩, xi⟩
          rw [hh, if_neg (by decide)] at hil
          have HAD := Lib.hid (fun G W h => (HXL.out G I (by omega) W h).1)
          have HDE := Lib.hid (fun G W h => (HXL.out G (insE I ⟨⟨xk, xb, xn, xf, xt⟩, xi⟩) (by omega) W h).2.1)
          have HLE := Lib.hid (fun G W h => (HXL.out G (insE I ⟨⟨xk, xb, xn, xf, xt⟩, xi⟩) (by omega) W h).2.2.1)
          have HAL := Lib.hid (fun G W h => (HXL.out G I (by omega) W h).2.2.2)
          rw [hh] at HAD
          rw [hin, hde] at HDE
          rw [hil] at HLE
          generalize insE I ⟨⟨xk, xb, xn, xf, xt⟩, xi⟩ = D at *
          generalize hn : I.length = n at *
          have HLn := Lib.hid hn
          have hn9 : n ≤ 120 := by omega
          clear hil hin hde HXL hh HX hn
          rcases hend with h1 | ⟨h1, h2⟩
          case' inr => subst h2
          all_goals (
            go_wp2_with (first
              | (go_at_call 20; (with_reducible refine (DK.out _).mono ?_); rintro e w10 ⟨rfl, hb⟩; have B10 := Lib.hid (bnext B9.out hb); clear hb)
              | (go_at_call 16; (with_reducible refine (esame_any _ _ I n _ _ _ R8.out R4.out HLn.out (by omega)).mono ?_); rintro e w9 ⟨rfl, hb⟩; have B9 := Lib.hid (bnext B8.out hb); clear hb)
              | (go_at_call 17; have _ := H7; (with_reducible refine (HAL.out _ _ H7.out).mono ?_); rintro e w8 ⟨A8, q8, rfl, hr, hb⟩; have B8 := Lib.hid (bnext H7.out.all hb); have R8 := Lib.hid hr; have R4 := Lib.hid (ERow.below R7.out hb); clear hr hb)
              | (go_at_call 13; (with_reducible refine (HDE.out _ _ H6.out).mono ?_); rintro e w7 ⟨rfl, h7, k7⟩; have H7 := Lib.hid h7; have R7 := Lib.hid (HK4.out _ ⟨Nat.le_trans K6.out.1 k7.1, fun j hj => (k7.2 j hj).trans (K6.out.2 j hj)⟩); clear h7 k7)
              | (go_at_call 18; (with_reducible refine (HLE.out _ _ H5.out).mono ?_); rintro e w6 ⟨rfl, hb⟩; have H6 := Lib.hid (H5.out.below HP.out hb); have K6 := Lib.hid (keep9_below H5.out K5.out hb); obtain ⟨c0, c1, c2, c3, c4, c5⟩ := HCX.out _ _ _ H6.out; clear hb)
              | (go_at_call 11; (with_reducible refine (HAD.out _ _ H4.out).mono ?_); rintro e w5 ⟨rfl, h5, k5⟩; have H5 := Lib.hid h5; have K5 := Lib.hid k5; obtain ⟨c0, c1, c2, c3, c4, c5⟩ := HCX.out _ _ _ h5; clear h5 k5)
              | (go_at_call 17; (with_reducible refine HA.out.mono ?_); rintro e w4 ⟨A4, q4, G4, rfl, h4, hk4⟩; have H4 := Lib.hid h4; have HK4 := Lib.hid hk4; obtain ⟨c0, c1, c2, c3, c4, c5⟩ := HCX.out _ _ _ h4; clear h4 hk4))
            go_ret
            exact ⟨rfl, bnext HV.out B10.out⟩)
end
end Go.Proofs.Ytmbbmgkbhfnchaa
