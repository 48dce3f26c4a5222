/- ligaturelaw9.TreePlays, walked: it returns true for every slice of acts. Conditions: the contracts of Prog9. -/
import Derived.Test.YtmbbmgkbhfnchaaUn
namespace Go.Proofs.Ytmbbmgkbhfnchaa
set_option maxRecDepth 100000
set_option linter.unusedVariables false
open Go.ChangeShapes Go.WideShapes Go.ChangeAt Go.RowKit
open Fl (S)
open Val (V cmpV cmpI isB)
/-- What an act makes of the entries. -/
def actE (I : List En) (k : Int) (x : En) : List En := if k = 1 then insE I x else delE I x
theorem actE_len (I : List En) (k : Int) (x : En) : (actE I k x).length ≤ I.length + 1 := by
  unfold actE
  split
  · rw [insE_len]; split <;> omega
  · have := delE_len I x; split at this <;> omega
def E6 (pk : Addr) (x : En) (W : World) : Prop := W.cell? ⟨pk.block, pk.off + 1, none⟩ = some (.int .i64 x.v.k) ∧ W.cell? ⟨pk.block, pk.off + 2, none⟩ = some (.bool x.v.b) ∧ W.cell? ⟨pk.block, pk.off + 3, none⟩ = some (.int .i64 x.v.n) ∧ W.cell? ⟨pk.block, pk.off + 4, none⟩ = some (.float .f64 x.v.f) ∧ W.cell? ⟨pk.block, pk.off + 5, none⟩ = some (.string x.v.t) ∧ W.cell? ⟨pk.block, pk.off + 6, none⟩ = some (.int .i64 x.i)
section
variable {PT : (Nat → Prop) → World → Nat → List En → Prop} {w wr : World} {a b : Nat} {I J : List En}
theorem plays9_calls (hP : Prog9 PT) (h : D9 PT w wr a b I J) (hl : I.length ≤ 100000) :
    Calls Try.prog 17 #[.pointer (some ⟨a, 0, none⟩)] wr (fun e w' => ∃ A c, e = .returned (.slice A I.length c) ∧ ERow w' A I ∧ Below wr.heap.size wr w') ∧
    Calls Try.prog 18 #[.pointer (some ⟨a, 0, none⟩)] wr (fun e w' => e = .returned (.int .i64 (I.length : Nat)) ∧ Below wr.heap.size wr w') ∧
    Calls Try.prog 15 #[.pointer (some ⟨a, 0, none⟩)] wr (fun e w' => ∃ d : Nat, e = .returned (.int .i64 (d : Nat)) ∧ d ≤ 2 * dig I.length ∧ (d = 0 ↔ I = []) ∧ Below wr.heap.size wr w') :=
  ⟨d9_all hP h hl, d9_len hP h hl, d9_depth hP h hl⟩
set_option maxHeartbeats 8000000 in
theorem plays9_any (hP : Prog9 PT) {w : World} (A : Option Addr) (l : List Act9) (cp : Nat) (hs : SlK9 w ⟨A, l, cp⟩) :
    Calls Try.prog 3 #[.slice A l.length cp] w fun e w' => e = .returned (.bool true) ∧ Below w.heap.size w w' := by
  have HP := Lib.hid hP
  have HS := Lib.hid hs
  have HM := Lib.hid (may9_all A l cp hs)
  clear hs hP
  cases hm : (decide (l.length ≤ 10000) && mayB l) with
  | false =>
    rw [hm] at HM
    clear hm
    go_enter Try.func3, Try.ntmps3
    go_wp2_with (go_at_call 9; (with_reducible refine HM.out.mono ?_); rintro e w1 ⟨rfl, hb⟩; have B1 := Lib.hid hb; clear hb)
    go_ret
    exact ⟨rfl, B1.out⟩
  | true =>
    rw [hm] at HM
    have hlen : l.length ≤ 10000 := by
      rw [Bool.and_eq_true] at hm; exact of_decide_eq_true hm.1
    have HMB := Lib.hid (show mayB l = true by rw [Bool.and_eq_true] at hm; exact hm.2)
    clear hm
    have HN := Lib.hid (fun W (hb : Below w.heap.size w W) => s9_new (G := noG9) HP.out hb (fun k hk => hk.elim))
    have DK := Lib.hid (known9_any HP.out)
    go_enter Try.func3, Try.ntmps3
    go_wp2_with (first
      | (go_at_call 10; (with_reducible refine (HN.out _ B1.out).mono ?_); rintro e w1 ⟨a, rfl, h1, hb1⟩; have H1 := Lib.hid (d9_start HP.out h1); clear h1 hb1)
      | (go_at_call 9; (with_reducible refine HM.out.mono ?_); rintro e w0 ⟨rfl, hb⟩; have B1 := Lib.hid hb; clear hb))
    clear HN HM
    go_loopw [5] (fun i wr => ∃ (k : Nat) (I : List En), k ≤ l.length ∧ k ≤ 120 ∧ i = .int .i64 (k : Nat) ∧ Hid (I.length ≤ k) ∧ Hid (D9 PT w wr a w1.heap.size I I)) (fun i _ => 120 - (intOf i).toNat)
    case atStart => exact ⟨0, [], Nat.zero_le _, by omega, rfl, Nat.le_refl _, H1.out⟩
    case round =>
      obtain ⟨k, I, hk, hk120, rfl, HI, HD⟩ := hrel
      clear H1
      by_cases hlt : k < l.length ∧ k < 120
      · obtain ⟨hl1, hl2⟩ := hlt
        obtain ⟨ad, pk, hA, hpk, hok, hcc⟩ := act9_at HS.out (k := k) hl1
        simp only at hA hcc hpk hok
        have HX : Hid (EOk l[k].x) := ⟨mayB_at HMB.out hl1 hl2, hok.f⟩
        clear hok
        subst hA
        obtain ⟨x, hx⟩ : ∃ x, x = l[k] := ⟨_, rfl⟩
        rw [← hx] at hcc HX
        clear hx
        obtain ⟨kd, x⟩ := x
        simp only at HX
        have HCC : Hid (∀ W, Below w.heap.size w W → E6 pk x W) := fun W hb => (hcc W hb).2
        have c0 := (hcc wr HD.out.all).1
        simp only at c0
        clear hcc
        have HIL := Lib.hid (show I.length ≤ 1000 by have := HI.out; omega)
        have HJ := Lib.hid (actE_len I kd x)
        by_cases hk1 : kd = 1
        · subst hk1
          have HQ : Hid (actE I 1 x = insE I x) := rfl
          go_upto_region 10 with fail
          clear c0
          have hd0 := HD.out.below HP.out (Below.refl wr.heap.size wr).drew
          have C1 := Lib.hid (d9_add HP.out hd0 x HX.out (by have := HIL.out; omega))
          have C2 := Lib.hid (fun W (h : D9 PT w W a w1.heap.size (insE I x) I) => d9r_add HP.out h x HX.out (by have := HIL.out; omega))
          have hS0 := HCC.out _ hd0.all
          unfold E6 at hS0
          have HC := Lib.hid (fun W (h : D9 PT w W a w1.heap.size (insE I x) I) => HCC.out _ h.all)
          have HC3 := Lib.hid (fun W (h : D9 PT w W a w1.heap.size (insE I x) (insE I x)) => HCC.out _ h.all)
          unfold E6 at HC HC3
          clear hd0
          generalize hhb : hasE I x = hb at C1 C2
          clear hhb
          generalize hHX : HX.out = _hx at C1
          clear hHX _hx HX HCC
          rw [← HQ.out] at C1 C2 HC HC3
          generalize actE I 1 x = I2 at *
          clear HQ
          obtain ⟨⟨xk, xb, xn, xf, xt⟩, xi⟩ := x
          simp only at hS0 HC HC3
          go_region_held3 (fun W => W.cell? ⟨pk.block, pk.off + 1, none⟩ = some (.int .i64 xk) ∧ W.cell? ⟨pk.block, pk.off + 2, none⟩ = some (.bool xb) ∧ W.cell? ⟨pk.block, pk.off + 3, none⟩ = some (.int .i64 xn) ∧ W.cell? ⟨pk.block, pk.off + 4, none⟩ = some (.float .f64 xf) ∧ W.cell? ⟨pk.block, pk.off + 5, none⟩ = some (.string xt) ∧ W.cell? ⟨pk.block, pk.off + 6, none⟩ = some (.int .i64 xi)) (first | exact hS0 | exact hS1 | exact hS2)
            (first
              | (go_at_call 12; (with_reducible refine (C2.out _ H2.out).mono ?_); rintro e w3 ⟨rfl, h3⟩; have H3 := Lib.hid h3; have hS2 := HC3.out _ h3; clear h3)
              | (go_at_call 11; (with_reducible refine C1.out.mono ?_); rintro e w2 ⟨rfl, h2⟩; have H2 := Lib.hid h2; have hS1 := HC.out _ h2; clear h2))
          clear hS0 hS1 hS2 HC HC3 C1 C2 H2
          have HP1 := Lib.hid (fun W (h : D9 PT w W a w1.heap.size I2 I2) => plays9_calls HP.out h (by have := HJ.out; have := HIL.out; omega))
          have HNI : Hid (∀ d : Nat, (d = 0 ↔ I2 = []) → (d = 0 ↔ I2.length = 0)) := fun d h => by rw [h, List.length_eq_zero_iff]
          go_upto_region 15 with (go_at_call 15; (with_reducible refine ((HP1.out _ H3.out).2.2).mono ?_); rintro e w4 ⟨d, rfl, hd1, hd2, hb4⟩; have HB4 := Lib.hid hb4; have HD1 := Lib.hid hd1; have HD2 := Lib.hid (HNI.out d hd2); clear hb4 hd1 hd2)
          have H4 := Lib.hid (H3.out.below HP.out HB4.out)
          clear H3 HNI
          obtain ⟨A1, c1, hit, hrow⟩ := H4.out.items
          have HW4 := Lib.hid (fun W (hb : Below w4.heap.size w4 W) => (show W.cell? ⟨w1.heap.size, 0, none⟩ = _ from (hb.cell (World.block_lt_of_cell? w4 _ hit)).trans hit))
          have HD4 := Lib.hid (fun W (hb : Below w4.heap.size w4 W) => HP1.out W (H4.out.below HP.out hb))
          have HR4 := Lib.hid (fun W (hb : Below w4.heap.size w4 W) => hrow.below hb)
          have HNL : Hid (I2.length ≤ k + 1) := by have h1 := HJ.out; have h2 := HI.out; simp only [Hid]; omega
          have HNM : Hid (I2.length ≤ 1001) := by have h1 := HJ.out; have h2 := HIL.out; simp only [Hid]; omega
          have HGL := Lib.hid (dig_le I2.length)
          have HDG := Lib.hid (fun W => digits_any I2.length (by have := HNM.out; omega) W)
          clear hrow HP1 HIL HJ HI
          generalize hLn : I2.length = n at *
          have HLn := Lib.hid hLn
          have B0 := Lib.hid ((Below.refl w4.heap.size w4).drew)
          have hS0 := HW4.out _ B0.out
          have hn1 : n ≤ 1001 := HNM.out
          generalize dig n = g at *
          have hg1 : g ≤ 1001 := Nat.le_trans HGL.out hn1
          have hg2 : d ≤ 2 * g := HD1.out
          have hd2 : d = 0 ↔ n = 0 := HD2.out
          have hgw : IntKind.i64.wrap (2 * (g : Int)) = 2 * (g : Int) := by have h := wrapI (m := 2 * g) (by omega); simpa using h
          have hgt : ¬ (2 * (g : Int) < (d : Int)) := by omega
          have hgu : decide (2 * (g : Int) < (d : Int)) = false := decide_eq_false hgt
          have hdn : ¬ ((d : Int) < 0) := by omega
          clear hit hLn
          rcases Nat.eq_zero_or_pos n with hz | hz
          · obtain rfl : d = 0 := hd2.2 hz
            subst hz
            have HDG0 := Lib.hid (fun W => (show Calls Try.prog 19 #[.int .i64 0] W _ from HDG.out W))
            go_region_held3 (fun W => W.cell? ⟨w1.heap.size, 0, none⟩ = some (.slice A1 0 c1)) (first | exact hS0 | exact hS5 | exact hS6 | exact hS7)
              (first
                | (go_at_call 19; (with_reducible refine (HDG0.out _).mono ?_); rintro e w8 ⟨rfl, rfl⟩)
                | (go_at_call 18; (with_reducible refine ((HD4.out _ B6.out).2.1).mono ?_); rintro e w7 ⟨rfl, hb⟩; have B7 := Lib.hid (bnext B6.out hb); have hS7 := HW4.out _ B7.out; clear hb)
                | (go_at_call 16; (with_reducible refine (esame_any _ _ I2 0 _ _ _ R5.out (HR4.out _ B5.out) HLn.out (by omega)).mono ?_); rintro e w6 ⟨rfl, hb⟩; have B6 := Lib.hid (bnext B5.out hb); have hS6 := HW4.out _ B6.out; clear hb)
                | (go_at_call 17; (with_reducible refine ((HD4.out _ B0.out).1).mono ?_); rintro e w5 ⟨A5, c5, rfl, hn5, hb⟩; have B5 := Lib.hid (bnext B0.out hb); have R5 := Lib.hid hn5; have hS5 := HW4.out _ B5.out; clear hb hn5))
            clear hS0 hS5 hS6 hS7
            go_wp2
            exact ⟨⟨k + 1, I2, by omega, by omega, by go_num, (by simp only [Hid]; have h1 := HLn.out; have h2 := HNL.out; omega), H4.out.below HP.out B7.out⟩, by simp [intOf]; omega⟩
          · have hd3 : 0 < d := by omega
            have hq3 : ((d : Int) == 0) = false := by simp; omega
            have hq4 : ((n : Int) == 0) = false := by simp; omega
            go_region_held3 (fun W => W.cell? ⟨w1.heap.size, 0, none⟩ = some (.slice A1 n c1)) (first | exact hS0 | exact hS5 | exact hS6 | exact hS7)
              (first
                | (go_at_call 19; (with_reducible refine (HDG.out _).mono ?_); rintro e w8 ⟨rfl, rfl⟩)
                | (go_at_call 18; (with_reducible refine ((HD4.out _ B6.out).2.1).mono ?_); rintro e w7 ⟨rfl, hb⟩; have B7 := Lib.hid (bnext B6.out hb); have hS7 := HW4.out _ B7.out; clear hb)
                | (go_at_call 16; (with_reducible refine (esame_any _ _ I2 n _ _ _ R5.out (HR4.out _ B5.out) HLn.out (by omega)).mono ?_); rintro e w6 ⟨rfl, hb⟩; have B6 := Lib.hid (bnext B5.out hb); have hS6 := HW4.out _ B6.out; clear hb)
                | (go_at_call 17; (with_reducible refine ((HD4.out _ B0.out).1).mono ?_); rintro e w5 ⟨A5, c5, rfl, hn5, hb⟩; have B5 := Lib.hid (bnext B0.out hb); have R5 := Lib.hid hn5; have hS5 := HW4.out _ B5.out; clear hb hn5))
            clear hS0 hS5 hS6 hS7
            go_wp2
            exact ⟨⟨k + 1, I2, by omega, by omega, by go_num, (by simp only [Hid]; have h1 := HLn.out; have h2 := HNL.out; omega), H4.out.below HP.out B7.out⟩, by simp [intOf]; omega⟩
        · have hq1 : (kd == 1) = false := by simpa using hk1
          have HQ : Hid (actE I kd x = delE I x) := by simp only [Hid]; unfold actE; rw [if_neg hk1]
          go_upto_region 12 with fail
          clear c0
          have hd0 := HD.out.below HP.out (Below.refl wr.heap.size wr).drew
          have C1 := Lib.hid (d9_del HP.out hd0 x HX.out (by have := HIL.out; omega))
          have C2 := Lib.hid (fun W (h : D9 PT w W a w1.heap.size (delE I x) I) => d9r_del HP.out h x HX.out (by have := HIL.out; omega))
          have hS0 := HCC.out _ hd0.all
          unfold E6 at hS0
          have HC := Lib.hid (fun W (h : D9 PT w W a w1.heap.size (delE I x) I) => HCC.out _ h.all)
          have HC3 := Lib.hid (fun W (h : D9 PT w W a w1.heap.size (delE I x) (delE I x)) => HCC.out _ h.all)
          unfold E6 at HC HC3
          clear hd0
          generalize hhb : hasE I x = hb at C1 C2
          clear hhb
          generalize hHX : HX.out = _hx at C1
          clear hHX _hx HX HCC
          rw [← HQ.out] at C1 C2 HC HC3
          generalize actE I kd x = I2 at *
          clear HQ
          obtain ⟨⟨xk, xb, xn, xf, xt⟩, xi⟩ := x
          simp only at hS0 HC HC3
          go_region_held3 (fun W => W.cell? ⟨pk.block, pk.off + 1, none⟩ = some (.int .i64 xk) ∧ W.cell? ⟨pk.block, pk.off + 2, none⟩ = some (.bool xb) ∧ W.cell? ⟨pk.block, pk.off + 3, none⟩ = some (.int .i64 xn) ∧ W.cell? ⟨pk.block, pk.off + 4, none⟩ = some (.float .f64 xf) ∧ W.cell? ⟨pk.block, pk.off + 5, none⟩ = some (.string xt) ∧ W.cell? ⟨pk.block, pk.off + 6, none⟩ = some (.int .i64 xi)) (first | exact hS0 | exact hS1 | exact hS2)
            (first
              | (go_at_call 14; (with_reducible refine (C2.out _ H2.out).mono ?_); rintro e w3 ⟨rfl, h3⟩; have H3 := Lib.hid h3; have hS2 := HC3.out _ h3; clear h3)
              | (go_at_call 13; (with_reducible refine C1.out.mono ?_); rintro e w2 ⟨rfl, h2⟩; have H2 := Lib.hid h2; have hS1 := HC.out _ h2; clear h2))
          clear hS0 hS1 hS2 HC HC3 C1 C2 H2
          have HP1 := Lib.hid (fun W (h : D9 PT w W a w1.heap.size I2 I2) => plays9_calls HP.out h (by have := HJ.out; have := HIL.out; omega))
          have HNI : Hid (∀ d : Nat, (d = 0 ↔ I2 = []) → (d = 0 ↔ I2.length = 0)) := fun d h => by rw [h, List.length_eq_zero_iff]
          go_upto_region 15 with (go_at_call 15; (with_reducible refine ((HP1.out _ H3.out).2.2).mono ?_); rintro e w4 ⟨d, rfl, hd1, hd2, hb4⟩; have HB4 := Lib.hid hb4; have HD1 := Lib.hid hd1; have HD2 := Lib.hid (HNI.out d hd2); clear hb4 hd1 hd2)
          have H4 := Lib.hid (H3.out.below HP.out HB4.out)
          clear H3 HNI
          obtain ⟨A1, c1, hit, hrow⟩ := H4.out.items
          have HW4 := Lib.hid (fun W (hb : Below w4.heap.size w4 W) => (show W.cell? ⟨w1.heap.size, 0, none⟩ = _ from (hb.cell (World.block_lt_of_cell? w4 _ hit)).trans hit))
          have HD4 := Lib.hid (fun W (hb : Below w4.heap.size w4 W) => HP1.out W (H4.out.below HP.out hb))
          have HR4 := Lib.hid (fun W (hb : Below w4.heap.size w4 W) => hrow.below hb)
          have HNL : Hid (I2.length ≤ k + 1) := by have h1 := HJ.out; have h2 := HI.out; simp only [Hid]; omega
          have HNM : Hid (I2.length ≤ 1001) := by have h1 := HJ.out; have h2 := HIL.out; simp only [Hid]; omega
          have HGL := Lib.hid (dig_le I2.length)
          have HDG := Lib.hid (fun W => digits_any I2.length (by have := HNM.out; omega) W)
          clear hrow HP1 HIL HJ HI
          generalize hLn : I2.length = n at *
          have HLn := Lib.hid hLn
          have B0 := Lib.hid ((Below.refl w4.heap.size w4).drew)
          have hS0 := HW4.out _ B0.out
          have hn1 : n ≤ 1001 := HNM.out
          generalize dig n = g at *
          have hg1 : g ≤ 1001 := Nat.le_trans HGL.out hn1
          have hg2 : d ≤ 2 * g := HD1.out
          have hd2 : d = 0 ↔ n = 0 := HD2.out
          have hgw : IntKind.i64.wrap (2 * (g : Int)) = 2 * (g : Int) := by have h := wrapI (m := 2 * g) (by omega); simpa using h
          have hgt : ¬ (2 * (g : Int) < (d : Int)) := by omega
          have hgu : decide (2 * (g : Int) < (d : Int)) = false := decide_eq_false hgt
          have hdn : ¬ ((d : Int) < 0) := by omega
          clear hit hLn
          rcases Nat.eq_zero_or_pos n with hz | hz
          · obtain rfl : d = 0 := hd2.2 hz
            subst hz
            have HDG0 := Lib.hid (fun W => (show Calls Try.prog 19 #[.int .i64 0] W _ from HDG.out W))
            go_region_held3 (fun W => W.cell? ⟨w1.heap.size, 0, none⟩ = some (.slice A1 0 c1)) (first | exact hS0 | exact hS5 | exact hS6 | exact hS7)
              (first
                | (go_at_call 19; (with_reducible refine (HDG0.out _).mono ?_); rintro e w8 ⟨rfl, rfl⟩)
                | (go_at_call 18; (with_reducible refine ((HD4.out _ B6.out).2.1).mono ?_); rintro e w7 ⟨rfl, hb⟩; have B7 := Lib.hid (bnext B6.out hb); have hS7 := HW4.out _ B7.out; clear hb)
                | (go_at_call 16; (with_reducible refine (esame_any _ _ I2 0 _ _ _ R5.out (HR4.out _ B5.out) HLn.out (by omega)).mono ?_); rintro e w6 ⟨rfl, hb⟩; have B6 := Lib.hid (bnext B5.out hb); have hS6 := HW4.out _ B6.out; clear hb)
                | (go_at_call 17; (with_reducible refine ((HD4.out _ B0.out).1).mono ?_); rintro e w5 ⟨A5, c5, rfl, hn5, hb⟩; have B5 := Lib.hid (bnext B0.out hb); have R5 := Lib.hid hn5; have hS5 := HW4.out _ B5.out; clear hb hn5))
            clear hS0 hS5 hS6 hS7
            go_wp2
            exact ⟨⟨k + 1, I2, by omega, by omega, by go_num, (by simp only [Hid]; have h1 := HLn.out; have h2 := HNL.out; omega), H4.out.below HP.out B7.out⟩, by simp [intOf]; omega⟩
          · have hd3 : 0 < d := by omega
            have hq3 : ((d : Int) == 0) = false := by simp; omega
            have hq4 : ((n : Int) == 0) = false := by simp; omega
            go_region_held3 (fun W => W.cell? ⟨w1.heap.size, 0, none⟩ = some (.slice A1 n c1)) (first | exact hS0 | exact hS5 | exact hS6 | exact hS7)
              (first
                | (go_at_call 19; (with_reducible refine (HDG.out _).mono ?_); rintro e w8 ⟨rfl, rfl⟩)
                | (go_at_call 18; (with_reducible refine ((HD4.out _ B6.out).2.1).mono ?_); rintro e w7 ⟨rfl, hb⟩; have B7 := Lib.hid (bnext B6.out hb); have hS7 := HW4.out _ B7.out; clear hb)
                | (go_at_call 16; (with_reducible refine (esame_any _ _ I2 n _ _ _ R5.out (HR4.out _ B5.out) HLn.out (by omega)).mono ?_); rintro e w6 ⟨rfl, hb⟩; have B6 := Lib.hid (bnext B5.out hb); have hS6 := HW4.out _ B6.out; clear hb)
                | (go_at_call 17; (with_reducible refine ((HD4.out _ B0.out).1).mono ?_); rintro e w5 ⟨A5, c5, rfl, hn5, hb⟩; have B5 := Lib.hid (bnext B0.out hb); have R5 := Lib.hid hn5; have hS5 := HW4.out _ B5.out; clear hb hn5))
            clear hS0 hS5 hS6 hS7
            go_wp2
            exact ⟨⟨k + 1, I2, by omega, by omega, by go_num, (by simp only [Hid]; have h1 := HLn.out; have h2 := HNL.out; omega), H4.out.below HP.out B7.out⟩, by simp [intOf]; omega⟩
      · have hend : ¬ k < l.length ∨ (k < l.length ∧ k = 120) := by omega
        clear hlt
        rcases hend with h1 | ⟨h1, h2⟩
        case' inr => subst h2
        all_goals (
          go_wp2_with (go_at_call 20; (with_reducible refine (DK.out _).mono ?_); rintro e w9 ⟨rfl, hb9⟩; have B9 := Lib.hid hb9; clear hb9)
          go_ret
          exact ⟨rfl, bnext HD.out.all B9.out⟩)
end
end Go.Proofs.Ytmbbmgkbhfnchaa
