/- ligaturelaw9.TreeRanges, walked: it returns true for every slice of acts and any two values. Conditions: the contracts of Prog9; the values came in. -/
import Derived.Test.YtmbbmgkbhfnchaaUq
namespace Go.Proofs.Ytmbbmgkbhfnchaa
set_option maxRecDepth 100000
set_option linter.unusedVariables false
open Go.ChangeShapes Go.WideShapes Go.ChangeAt Go.RowKit
open Fl (S)
open Val (V cmpV cmpI isB)
theorem vat5 {W : World} {z : Nat} {x : V} (h : VAt W ⟨z, 0, none⟩ x) : W.cell? ⟨z, 0, none⟩ = some (.int .i64 x.k) ∧ W.cell? ⟨z, 1, none⟩ = some (.bool x.b) ∧ W.cell? ⟨z, 2, none⟩ = some (.int .i64 x.n) ∧ W.cell? ⟨z, 3, none⟩ = some (.float .f64 x.f) ∧ W.cell? ⟨z, 4, none⟩ = some (.string x.t) := by
  obtain ⟨c0, c1, c2, c3, c4⟩ := h
  simp only [Nat.zero_add] at c0 c1 c2 c3 c4
  exact ⟨c0, c1, c2, c3, c4⟩
section
variable {PT : (Nat → Prop) → World → Nat → List En → Prop} {w : World}
set_option maxHeartbeats 8000000 in
theorem ranges9_any (hP : Prog9 PT) {w : World} (A : Option Addr) (l : List Act9) (cp : Nat) (hs : SlK9 w ⟨A, l, cp⟩) (lo hi : V) (hlo : VOk lo) (hhi : VOk hi) :
    Calls Try.prog 4 #[.slice A l.length cp, vv lo, vv hi] w fun e w' => e = .returned (.bool true) ∧ Below w.heap.size w w' := by
  have HP := Lib.hid hP
  have HS := Lib.hid hs
  have HL := Lib.hid (fun W => ris_any lo hlo.t W)
  have HH := Lib.hid (fun W => ris_any hi hhi.t W)
  have HF : Hid (lo.f < 2 * S ∧ hi.f < 2 * S) := ⟨hlo.f, hhi.f⟩
  obtain ⟨lk, lb, ln, lf, lt⟩ := lo
  obtain ⟨mk, mb, mn, mf, mt⟩ := hi
  have hb1 := (Below.refl w.heap.size w).alloc (Nat.le_refl _) (.cells #[.int .i64 lk, .bool lb, .int .i64 ln, .float .f64 lf, .string lt] 32)
  have hs1 : (w.alloc (.cells #[.int .i64 lk, .bool lb, .int .i64 ln, .float .f64 lf, .string lt] 32)).heap.size = w.heap.size + 1 := by simp
  have hb2 := (Below.refl _ _).alloc (Nat.le_refl _) (.cells #[.int .i64 mk, .bool mb, .int .i64 mn, .float .f64 mf, .string mt] 32) (a := w.alloc (.cells #[.int .i64 lk, .bool lb, .int .i64 ln, .float .f64 lf, .string lt] 32))
  have HV := Lib.hid (bnext hb1 hb2)
  have HB1 := Lib.hid ((box_val w ⟨lk, lb, ln, lf, lt⟩).below hb2)
  have HB2 := Lib.hid (box_val (w.alloc (.cells #[.int .i64 lk, .bool lb, .int .i64 ln, .float .f64 lf, .string lt] 32)) ⟨mk, mb, mn, mf, mt⟩)
  rw [hs1] at HB2
  have HC := Lib.hid (fun W (hb : Below ((w.alloc (.cells #[.int .i64 lk, .bool lb, .int .i64 ln, .float .f64 lf, .string lt] 32)).alloc (.cells #[.int .i64 mk, .bool mb, .int .i64 mn, .float .f64 mf, .string mt] 32)).heap.size ((w.alloc (.cells #[.int .i64 lk, .bool lb, .int .i64 ln, .float .f64 lf, .string lt] 32)).alloc (.cells #[.int .i64 mk, .bool mb, .int .i64 mn, .float .f64 mf, .string mt] 32)) W) => And.intro (vat5 (HB1.out.below hb)) (vat5 (HB2.out.below hb)))
  obtain ⟨⟨c0, c1, c2, c3, c4⟩, ⟨d0, d1, d2, d3, d4⟩⟩ := HC.out _ (Below.refl _ _)
  have HM := Lib.hid (fun W (hb : Below w.heap.size w W) => may9_all A l cp (hs.below hb))
  clear hs hP hlo hhi hb1 hb2 hs1 HB1 HB2
  simp only at c0 c1 c2 c3 c4 d0 d1 d2 d3 d4 HC
  cases hm : (decide (l.length ≤ 10000) && mayB l) with
  | false =>
    rw [hm] at HM
    clear hm
    go_enter Try.func4, Try.ntmps4
    go_wp2_with (go_at_call 9; (with_reducible refine (HM.out _ HV.out).mono ?_); rintro e w0 ⟨rfl, hb⟩; have B0 := Lib.hid hb; obtain ⟨⟨c0, c1, c2, c3, c4⟩, ⟨d0, d1, d2, d3, d4⟩⟩ := HC.out _ B0.out; clear hb)
    go_ret
    exact ⟨rfl, bnext HV.out B0.out⟩
  | true =>
  rw [hm] at HM
  have hlen : l.length ≤ 10000 := by
    rw [Bool.and_eq_true] at hm; exact of_decide_eq_true hm.1
  have HMB := Lib.hid (show mayB l = true by rw [Bool.and_eq_true] at hm; exact hm.2)
  clear hm
  cases hl1 : isB ⟨lk, lb, ln, lf, lt⟩ with
  | false =>
    simp only [hl1] at HL
    clear hl1
    go_enter Try.func4, Try.ntmps4
    go_wp2_with (first | (go_at_call 21; (with_reducible refine (HL.out _).mono ?_); rintro e wl ⟨rfl, hb⟩; have B1 := Lib.hid (bnext B0.out hb); obtain ⟨⟨c0, c1, c2, c3, c4⟩, ⟨d0, d1, d2, d3, d4⟩⟩ := HC.out _ B1.out; clear hb) | (go_at_call 9; (with_reducible refine (HM.out _ HV.out).mono ?_); rintro e w0 ⟨rfl, hb⟩; have B0 := Lib.hid hb; obtain ⟨⟨c0, c1, c2, c3, c4⟩, ⟨d0, d1, d2, d3, d4⟩⟩ := HC.out _ B0.out; clear hb))
    go_ret
    exact ⟨rfl, bnext HV.out B1.out⟩
  | true =>
  have HL1 := Lib.hid hl1
  simp only [hl1] at HL
  clear hl1
  cases hl2 : isB ⟨mk, mb, mn, mf, mt⟩ with
  | false =>
    simp only [hl2] at HH
    clear hl2
    go_enter Try.func4, Try.ntmps4
    go_wp2_with (first | (go_at_call 21; have _ := B1; (with_reducible refine (HH.out _).mono ?_); rintro e wh ⟨rfl, hb⟩; have B2 := Lib.hid (bnext B1.out hb); clear hb) | (go_at_call 21; (with_reducible refine (HL.out _).mono ?_); rintro e wl ⟨rfl, hb⟩; have B1 := Lib.hid (bnext B0.out hb); obtain ⟨⟨c0, c1, c2, c3, c4⟩, ⟨d0, d1, d2, d3, d4⟩⟩ := HC.out _ B1.out; clear hb) | (go_at_call 9; (with_reducible refine (HM.out _ HV.out).mono ?_); rintro e w0 ⟨rfl, hb⟩; have B0 := Lib.hid hb; obtain ⟨⟨c0, c1, c2, c3, c4⟩, ⟨d0, d1, d2, d3, d4⟩⟩ := HC.out _ B0.out; clear hb))
    go_ret
    exact ⟨rfl, bnext HV.out B2.out⟩
  | true =>
    have HL2 := Lib.hid hl2
    simp only [hl2] at HH
    clear hl2
    have HN := Lib.hid (fun W (hb : Below ((w.alloc (.cells #[.int .i64 lk, .bool lb, .int .i64 ln, .float .f64 lf, .string lt] 32)).alloc (.cells #[.int .i64 mk, .bool mb, .int .i64 mn, .float .f64 mf, .string mt] 32)).heap.size ((w.alloc (.cells #[.int .i64 lk, .bool lb, .int .i64 ln, .float .f64 lf, .string lt] 32)).alloc (.cells #[.int .i64 mk, .bool mb, .int .i64 mn, .float .f64 mf, .string mt] 32)) W) => s9_new (G := noG9) HP.out hb (fun k hk => hk.elim))
    have DK := Lib.hid (known9_any HP.out)
    go_enter Try.func4, Try.ntmps4
    go_wp2_with (first
      | (go_at_call 10; (with_reducible refine (HN.out _ B2.out).mono ?_); rintro e w1 ⟨a, rfl, h1, hb1⟩; have H1 := Lib.hid (d9_start HP.out h1); clear h1 hb1)
      | (go_at_call 21; have _ := B1; (with_reducible refine (HH.out _).mono ?_); rintro e wh ⟨rfl, hb⟩; have B2 := Lib.hid (bnext B1.out hb); clear hb)
      | (go_at_call 21; (with_reducible refine (HL.out _).mono ?_); rintro e wl ⟨rfl, hb⟩; have B1 := Lib.hid (bnext B0.out hb); obtain ⟨⟨c0, c1, c2, c3, c4⟩, ⟨d0, d1, d2, d3, d4⟩⟩ := HC.out _ B1.out; clear hb)
      | (go_at_call 9; (with_reducible refine (HM.out _ HV.out).mono ?_); rintro e w0 ⟨rfl, hb⟩; have B0 := Lib.hid hb; obtain ⟨⟨c0, c1, c2, c3, c4⟩, ⟨d0, d1, d2, d3, d4⟩⟩ := HC.out _ B0.out; clear hb))
    clear HN HM HL HH
    clear c0 c1 c2 c3 c4 d0 d1 d2 d3 d4
    go_loopw [9] (fun i wr => ∃ (k : Nat) (I : List En), k ≤ l.length ∧ k ≤ 120 ∧ i = .int .i64 (k : Nat) ∧ Hid (I.length ≤ k) ∧ Hid (D9 PT ((w.alloc (.cells #[.int .i64 lk, .bool lb, .int .i64 ln, .float .f64 lf, .string lt] 32)).alloc (.cells #[.int .i64 mk, .bool mb, .int .i64 mn, .float .f64 mf, .string mt] 32)) wr a w1.heap.size I I)) (fun i _ => 120 - (intOf i).toNat)
    case atStart => exact ⟨0, [], Nat.zero_le _, by omega, rfl, Nat.le_refl _, H1.out⟩
    case round =>
      obtain ⟨k, I, hk, hk120, rfl, HI, HD⟩ := hrel
      clear H1
      by_cases hlt : k < l.length ∧ k < 120
      · obtain ⟨hl1, hl2⟩ := hlt
        obtain ⟨ad, pk, hA, hpk, hok, hcc⟩ := act9_at HS.out (k := k) hl1
        simp only at hA hcc hpk hok
        have HX : Hid (EOk l[k].x) := ⟨mayB_at HMB.out hl1 hl2, hok.f⟩
        clear hok
        subst hA
        obtain ⟨x, hx⟩ : ∃ x, x = l[k] := ⟨_, rfl⟩
        rw [← hx] at hcc HX
        clear hx
        obtain ⟨kd, x⟩ := x
        simp only at HX
        have HCC : Hid (∀ W, Below ((w.alloc (.cells #[.int .i64 lk, .bool lb, .int .i64 ln, .float .f64 lf, .string lt] 32)).alloc (.cells #[.int .i64 mk, .bool mb, .int .i64 mn, .float .f64 mf, .string mt] 32)).heap.size ((w.alloc (.cells #[.int .i64 lk, .bool lb, .int .i64 ln, .float .f64 lf, .string lt] 32)).alloc (.cells #[.int .i64 mk, .bool mb, .int .i64 mn, .float .f64 mf, .string mt] 32)) W → E6 pk x W) := fun W hb => (hcc W (bnext HV.out hb)).2
        obtain ⟨c0, e1, e2, e3, e4, e5, e6⟩ := hcc wr (bnext HV.out HD.out.all)
        simp only at c0
        clear hcc
        have HIL := Lib.hid (show I.length ≤ 1000 by have := HI.out; omega)
        have HJ := Lib.hid (actE_len I kd x)
        by_cases hk1 : kd = 1
        · subst hk1
          have HQ : Hid (actE I 1 x = insE I x) := rfl
          have C1 := Lib.hid (d9_add HP.out HD.out x HX.out (by have := HIL.out; omega))
          have C2 := Lib.hid (fun W (h : D9 PT ((w.alloc (.cells #[.int .i64 lk, .bool lb, .int .i64 ln, .float .f64 lf, .string lt] 32)).alloc (.cells #[.int .i64 mk, .bool mb, .int .i64 mn, .float .f64 mf, .string mt] 32)) W a w1.heap.size (insE I x) I) => d9r_add HP.out h x HX.out (by have := HIL.out; omega))
          have HC2 := Lib.hid (fun W (h : D9 PT ((w.alloc (.cells #[.int .i64 lk, .bool lb, .int .i64 ln, .float .f64 lf, .string lt] 32)).alloc (.cells #[.int .i64 mk, .bool mb, .int .i64 mn, .float .f64 mf, .string mt] 32)) W a w1.heap.size (insE I x) I) => HCC.out W h.all)
          unfold E6 at HC2
          rw [← HQ.out] at C1 C2 HC2
          generalize hHX : HX.out = _hx at C1
          clear hHX _hx HX HCC HQ
          generalize actE I 1 x = I2 at *
          obtain ⟨⟨xk, xb, xn, xf, xt⟩, xi⟩ := x
          simp only at e1 e2 e3 e4 e5 e6 HC2
          go_wp2_with (first
            | (go_at_call 12; (with_reducible refine (C2.out _ H2.out).mono ?_); rintro e w3 ⟨rfl, h3⟩; have H3 := Lib.hid h3; clear h3)
            | (go_at_call 11; (with_reducible refine C1.out.mono ?_); rintro e w2 ⟨rfl, h2⟩; have H2 := Lib.hid h2; obtain ⟨f1, f2, f3, f4, f5, f6⟩ := HC2.out _ h2; clear h2))
          exact ⟨⟨k + 1, I2, by omega, by omega, by go_num, (by simp only [Hid]; have h1 := HJ.out; have h2 := HI.out; omega), H3.out⟩, by simp [intOf]; omega⟩
        · have hq1 : (kd == 1) = false := by simpa using hk1
          have HQ : Hid (actE I kd x = delE I x) := by simp only [Hid]; unfold actE; rw [if_neg hk1]
          have C1 := Lib.hid (d9_del HP.out HD.out x HX.out (by have := HIL.out; omega))
          have C2 := Lib.hid (fun W (h : D9 PT ((w.alloc (.cells #[.int .i64 lk, .bool lb, .int .i64 ln, .float .f64 lf, .string lt] 32)).alloc (.cells #[.int .i64 mk, .bool mb, .int .i64 mn, .float .f64 mf, .string mt] 32)) W a w1.heap.size (delE I x) I) => d9r_del HP.out h x HX.out (by have := HIL.out; omega))
          have HC2 := Lib.hid (fun W (h : D9 PT ((w.alloc (.cells #[.int .i64 lk, .bool lb, .int .i64 ln, .float .f64 lf, .string lt] 32)).alloc (.cells #[.int .i64 mk, .bool mb, .int .i64 mn, .float .f64 mf, .string mt] 32)) W a w1.heap.size (delE I x) I) => HCC.out W h.all)
          unfold E6 at HC2
          rw [← HQ.out] at C1 C2 HC2
          generalize hHX : HX.out = _hx at C1
          clear hHX _hx HX HCC HQ
          generalize actE I kd x = I2 at *
          obtain ⟨⟨xk, xb, xn, xf, xt⟩, xi⟩ := x
          simp only at e1 e2 e3 e4 e5 e6 HC2
          go_wp2_with (first
            | (go_at_call 14; (with_reducible refine (C2.out _ H2.out).mono ?_); rintro e w3 ⟨rfl, h3⟩; have H3 := Lib.hid h3; clear h3)
            | (go_at_call 13; (with_reducible refine C1.out.mono ?_); rintro e w2 ⟨rfl, h2⟩; have H2 := Lib.hid h2; obtain ⟨f1, f2, f3, f4, f5, f6⟩ := HC2.out _ h2; clear h2))
          exact ⟨⟨k + 1, I2, by omega, by omega, by go_num, (by simp only [Hid]; have h1 := HJ.out; have h2 := HI.out; omega), H3.out⟩, by simp [intOf]; omega⟩
      · have hend : ¬ k < l.length ∨ (k < l.length ∧ k = 120) := by omega
        have HR := Lib.hid (fun W (hb : Below wr.heap.size wr W) => d9_range HP.out (HD.out.below HP.out hb) ⟨lk, lb, ln, lf, lt⟩ ⟨mk, mb, mn, mf, mt⟩ HL1.out HF.out.1 HL2.out HF.out.2 (by have := HI.out; omega))
        have HT := Lib.hid (fun W (hb : Below wr.heap.size wr W) => d9_range HP.out (HD.out.below HP.out hb) ⟨lk, lb, ln, lf, lt⟩ ⟨lk, lb, ln, lf, lt⟩ HL1.out HF.out.1 HL1.out HF.out.1 (by have := HI.out; omega))
        have HRr := Lib.hid (fun W (hb : Below wr.heap.size wr W) => d9r_range HP.out (HD.out.below HP.out hb) ⟨lk, lb, ln, lf, lt⟩ ⟨mk, mb, mn, mf, mt⟩ HF.out.1 HF.out.2 (by have := HI.out; omega))
        have HTr := Lib.hid (fun W (hb : Below wr.heap.size wr W) => d9r_range HP.out (HD.out.below HP.out hb) ⟨lk, lb, ln, lf, lt⟩ ⟨lk, lb, ln, lf, lt⟩ HF.out.1 HF.out.1 (by have := HI.out; omega))
        have HN1 : Hid ((rngE I ⟨lk, lb, ln, lf, lt⟩ ⟨mk, mb, mn, mf, mt⟩).length ≤ 900000) := by have h1 := rng_len I ⟨lk, lb, ln, lf, lt⟩ ⟨mk, mb, mn, mf, mt⟩; have h2 := HI.out; simp only [Hid]; omega
        have HN2 : Hid ((rngE I ⟨lk, lb, ln, lf, lt⟩ ⟨lk, lb, ln, lf, lt⟩).length ≤ 900000) := by have h1 := rng_len I ⟨lk, lb, ln, lf, lt⟩ ⟨lk, lb, ln, lf, lt⟩; have h2 := HI.out; simp only [Hid]; omega
        have HCR := Lib.hid (fun W (hb : Below wr.heap.size wr W) => HC.out W (bnext HD.out.all hb))
        generalize rngE I ⟨lk, lb, ln, lf, lt⟩ ⟨mk, mb, mn, mf, mt⟩ = L1 at HR HRr HN1
        generalize rngE I ⟨lk, lb, ln, lf, lt⟩ ⟨lk, lb, ln, lf, lt⟩ = L2 at HT HTr HN2
        generalize hn1 : L1.length = n1 at *
        generalize hn2 : L2.length = n2 at *
        have HN1e := Lib.hid hn1
        have HN2e := Lib.hid hn2
        clear hlt hn1 hn2
        rcases hend with h1 | ⟨h1, h2⟩
        case' inr => subst h2
        all_goals (
          go_upto_region 14 with fail
          have B0' := Lib.hid ((Below.refl wr.heap.size wr).drew)
          have hS0 := HCR.out _ B0'.out
          go_region_held3 (fun W => (W.cell? ⟨w.heap.size, 0, none⟩ = some (.int .i64 lk) ∧ W.cell? ⟨w.heap.size, 1, none⟩ = some (.bool lb) ∧ W.cell? ⟨w.heap.size, 2, none⟩ = some (.int .i64 ln) ∧ W.cell? ⟨w.heap.size, 3, none⟩ = some (.float .f64 lf) ∧ W.cell? ⟨w.heap.size, 4, none⟩ = some (.string lt)) ∧ (W.cell? ⟨w.heap.size + 1, 0, none⟩ = some (.int .i64 mk) ∧ W.cell? ⟨w.heap.size + 1, 1, none⟩ = some (.bool mb) ∧ W.cell? ⟨w.heap.size + 1, 2, none⟩ = some (.int .i64 mn) ∧ W.cell? ⟨w.heap.size + 1, 3, none⟩ = some (.float .f64 mf) ∧ W.cell? ⟨w.heap.size + 1, 4, none⟩ = some (.string mt))) (first | exact hS0 | exact hS3 | exact hS4 | exact hS5 | exact hS6 | exact hS7 | exact hS8 | exact hS9)
            (first
              | (go_at_call 20; (with_reducible refine (DK.out _).mono ?_); rintro e w9 ⟨rfl, hb⟩; have B9 := Lib.hid (bnext B8.out hb); have hS9 := HCR.out _ B9.out; clear hb)
              | (go_at_call 16; have _ := B7; (with_reducible refine (esame_any _ _ L2 n2 _ _ _ R6.out R7.out HN2e.out HN2.out).mono ?_); rintro e w8 ⟨rfl, hb⟩; have B8 := Lib.hid (bnext B7.out hb); have hS8 := HCR.out _ B8.out; clear hb)
              | (go_at_call 23; have _ := B6; (with_reducible refine (HTr.out _ B6.out).mono ?_); rintro e w7 ⟨A7, c7, rfl, hr, hb⟩; have B7 := Lib.hid (bnext B6.out hb); have R6 := Lib.hid (R60.out.below hb); have R7 := Lib.hid hr; have hS7 := HCR.out _ B7.out; clear hb hr)
              | (go_at_call 22; have _ := B5; (with_reducible refine (HT.out _ B5.out).mono ?_); rintro e w6 ⟨A6, c6, rfl, hr, hb⟩; have B6 := Lib.hid (bnext B5.out hb); have R60 := Lib.hid hr; have hS6 := HCR.out _ B6.out; clear hb hr)
              | (go_at_call 16; (with_reducible refine (esame_any _ _ L1 n1 _ _ _ R3.out R4.out HN1e.out HN1.out).mono ?_); rintro e w5 ⟨rfl, hb⟩; have B5 := Lib.hid (bnext B4.out hb); have hS5 := HCR.out _ B5.out; clear hb)
              | (go_at_call 23; (with_reducible refine (HRr.out _ B3.out).mono ?_); rintro e w4 ⟨A4, c4, rfl, hr, hb⟩; have B4 := Lib.hid (bnext B3.out hb); have R3 := Lib.hid (R30.out.below hb); have R4 := Lib.hid hr; have hS4 := HCR.out _ B4.out; clear hb hr)
              | (go_at_call 22; (with_reducible refine (HR.out _ B0'.out).mono ?_); rintro e w3 ⟨A3, c3, rfl, hr, hb⟩; have B3 := Lib.hid (bnext B0'.out hb); have R30 := Lib.hid hr; have hS3 := HCR.out _ B3.out; clear hb hr))
          clear hS0 hS3 hS4 hS5 hS6 hS7 hS8 hS9
          go_wp2
          go_ret
          exact ⟨rfl, bnext HV.out (bnext HD.out.all B9.out)⟩)
end
end Go.Proofs.Ytmbbmgkbhfnchaa
