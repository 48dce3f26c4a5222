/- ligaturelaw9.TreeReals, walked: it returns true for all words. Conditions: the contracts of Prog9; the words are words. -/
import Derived.Test.YtmbbmgkbhfnchaaUn
import Derived.Test.YtmbbmgkbhfnchaaUs
namespace Go.Proofs.Ytmbbmgkbhfnchaa
set_option maxRecDepth 100000
set_option linter.unusedVariables false
open Go.ChangeShapes Go.WideShapes Go.ChangeAt Go.RowKit
open Fl (S normN)
open Val (V cmpV cmpI isB)
theorem isB_real (x : Nat) : isB ⟨3, false, 0, normN x, ⟨#[]⟩⟩ = true := by
  have h := Fl.normN_normN x
  unfold isB Val.oddB
  simp [h, Val.textOk]
  exact ⟨rfl, by decide⟩
theorem real_ok (x : Nat) (hx : x < 2 * S) (j : Int) : EOk ⟨⟨3, false, 0, normN x, ⟨#[]⟩⟩, j⟩ := ⟨isB_real x, Fl.normN_lt x hx⟩
theorem box6 {W W' : World} {g : Nat} {x : En} (h : W.heap[g]? = some (.cells #[.int .i64 x.v.k, .bool x.v.b, .int .i64 x.v.n, .float .f64 x.v.f, .string x.v.t, .int .i64 x.i] 34 (0, 0))) (he : W'.heap[g]? = W.heap[g]?) : W'.cell? ⟨g, 0, none⟩ = some (.int .i64 x.v.k) ∧ W'.cell? ⟨g, 1, none⟩ = some (.bool x.v.b) ∧ W'.cell? ⟨g, 2, none⟩ = some (.int .i64 x.v.n) ∧ W'.cell? ⟨g, 3, none⟩ = some (.float .f64 x.v.f) ∧ W'.cell? ⟨g, 4, none⟩ = some (.string x.v.t) ∧ W'.cell? ⟨g, 5, none⟩ = some (.int .i64 x.i) := by
  rw [h] at he
  refine ⟨?_, ?_, ?_, ?_, ?_, ?_⟩ <;> rw [cell_of_row W' g _ _ _ _ he] <;> rfl
theorem real_v (k : Int) (w : World) : Calls Try.prog 24 #[.int .u64 k] w fun e w' => e = .returned (vv ⟨3, false, 0, normN k.toNat, ⟨#[]⟩⟩) ∧ Below w.heap.size w w' := by
  have HN := Lib.hid (fun W => rnorm_any k.toNat W)
  go_enter Try.func24, Try.ntmps24
  go_wp2_with (go_at_call 25; (with_reducible refine (HN.out _).mono ?_); rintro e w1 ⟨rfl, rfl⟩)
  refine bodyPost_ret (v := vv ⟨3, false, 0, normN k.toNat, ⟨#[]⟩⟩) (by simp [results, Try.results24, go_sem]) rfl ⟨rfl, ?_⟩
  exact (Below.refl _ _).alloc (Nat.le_refl _) _
/-- Both trees, and a block g that stays. -/
def DK (PT : (Nat → Prop) → World → Nat → List En → Prop) (g : Nat) (w wr : World) (a b : Nat) (I J : List En) : Prop := ∃ F G, PT F wr a I ∧ TC G wr b J ∧ (∀ k, F k → ¬ G k ∧ k ≠ g ∧ w.heap.size ≤ k) ∧ (∀ k, G k → k ≠ g ∧ w.heap.size ≤ k) ∧ g < wr.heap.size ∧ Below w.heap.size w wr
section
variable {PT : (Nat → Prop) → World → Nat → List En → Prop} {w wr wb w' : World} {a b g : Nat} {I J : List En}
theorem DK.of (hP : Prog9 PT) (h : D9 PT w wr a b I J) (hb : Below wr.heap.size wr wb) (h1 : wr.heap.size ≤ g) (h2 : g < wb.heap.size) : DK PT g w wb a b I J := by
  obtain ⟨F, G, g1, g2, g3, g4, g6⟩ := h
  refine ⟨F, G, hP.same g1 (fun _ h => h) (fun k hk => Nat.lt_of_lt_of_le (hP.lt g1 k hk) hb.size) (fun k hk => hb.block k (hP.lt g1 k hk)), g2.below hb, fun k hk => ⟨(g3 k hk).1, fun e => ?_, (g3 k hk).2⟩, fun k hk => ⟨fun e => ?_, g4 k hk⟩, h2, g6.trans (hb.mono g6.size)⟩
  · have := hP.lt g1 k hk; omega
  · have := g2.lt k hk; omega
theorem DK.d9 (h : DK PT g w wr a b I J) : D9 PT w wr a b I J := by
  obtain ⟨F, G, g1, g2, g3, g4, g5, g6⟩ := h
  exact ⟨F, G, g1, g2, fun k hk => ⟨(g3 k hk).1, (g3 k hk).2.2⟩, fun k hk => (g4 k hk).2, g6⟩
theorem dk_add (hP : Prog9 PT) (h : DK PT g w wr a b I J) (x : En) (hx : EOk x) (hl : I.length ≤ 100000) : Calls Try.prog 11 #[.pointer (some ⟨a, 0, none⟩), ev x] wr fun e w' => e = .returned (.bool (!hasE I x)) ∧ DK PT g w w' a b (insE I x) J ∧ w'.heap[g]? = wr.heap[g]? := by
  obtain ⟨F, G, g1, g2, g3, g4, g5, g6⟩ := h
  refine (hP.add g1 x hx hl).mono ?_
  rintro e w' ⟨he, hp, hc⟩
  have hs := hc.size
  have hs6 := g6.size
  refine ⟨he, ⟨_, G, hp, g2.chg hc (fun k hk hf => (g3 k hf).1 hk), fun k hk => ?_, g4, by omega, Chg.of_below g6 hc (fun k hk => (g3 k hk).2.2)⟩, hc.block g g5 (fun hf => (g3 g hf).2.1 rfl)⟩
  rcases hk with hk | hk
  · exact g3 k hk
  · exact ⟨fun hg => by have := g2.lt k hg; omega, by omega, by omega⟩
theorem dk_radd (hP : Prog9 PT) (h : DK PT g w wr a b I J) (x : En) (hx : EOk x) (hl : J.length ≤ 900000) : Calls Try.prog 12 #[.pointer (some ⟨b, 0, none⟩), ev x] wr fun e w' => e = .returned (.bool (!hasE J x)) ∧ DK PT g w w' a b I (insE J x) ∧ w'.heap[g]? = wr.heap[g]? := by
  obtain ⟨F, G, g1, g2, g3, g4, g5, g6⟩ := h
  refine (radd9_any g2 x hx hl).mono ?_
  rintro e w' ⟨he, hp, hc⟩
  have hs := hc.size
  have hs6 := g6.size
  refine ⟨he, ⟨F, _, hP.same g1 (fun _ h => h) (fun k hk => Nat.lt_of_lt_of_le (hP.lt g1 k hk) hs) (fun k hk => hc.block k (hP.lt g1 k hk) (g3 k hk).1), hp, fun k hk => ⟨fun hg => ?_, (g3 k hk).2⟩, fun k hk => ?_, by omega, Chg.of_below g6 hc (fun k hk => (g4 k hk).2)⟩, hc.block g g5 (fun hf => (g4 g hf).1 rfl)⟩
  · have := hP.lt g1 k hk
    rcases hg with hg | hg
    · exact (g3 k hk).1 hg
    · omega
  · rcases hk with hk | hk
    · exact g4 k hk
    · exact ⟨by omega, by omega⟩
end
section
variable {PT : (Nat → Prop) → World → Nat → List En → Prop} {w : World}
set_option maxHeartbeats 8000000 in
theorem reals9_any (hP : Prog9 PT) {w : World} (A : Option Addr) (l : List Int) (cp : Nat) (hs : SlU9 w ⟨A, l, cp⟩) (za zb : Int) (hza : za.toNat < 2 * S) (hzb : zb.toNat < 2 * S) :
    Calls Try.prog 7 #[.slice A l.length cp, .int .u64 za, .int .u64 zb] w fun e w' => e = .returned (.bool true) ∧ Below w.heap.size w w' := by
  have HP := Lib.hid hP
  have HS := Lib.hid hs.1
  have HW := Lib.hid (show ∀ x ∈ l, x.toNat < 2 * S from fun x hx => by
    have h := hs.2 x hx
    have h2 : 0 ≤ x ∧ x ≤ 18446744073709551615 := by simpa [Lit.wf, IntKind.min, IntKind.max, IntKind.signed, IntKind.bits] using h
    unfold S; omega)
  have HRV := Lib.hid (fun k W => real_v k W)
  clear hs hP
  by_cases hbig : 100 < l.length
  · have hb2 : (100 : Int) < (l.length : Int) := by omega
    go_enter Try.func7, Try.ntmps7
    go_wp2
    go_ret
    exact ⟨rfl, Below.refl _ _⟩
  · have hb2 : (l.length : Int) ≤ 100 := by omega
    have hlen : l.length ≤ 100 := by omega
    clear hbig
    have HN := Lib.hid (s9_new (G := noG9) HP.out (Below.refl w.heap.size w) (fun k hk => hk.elim))
    have KN := Lib.hid (known9_any HP.out)
    go_enter Try.func7, Try.ntmps7
    go_wp2_with (go_at_call 10; (with_reducible refine HN.out.mono ?_); rintro e w1 ⟨a, rfl, h1, hb1⟩; have H1 := Lib.hid (d9_start HP.out h1); clear h1 hb1)
    clear HN
    go_loopw [10] (fun i wr => ∃ (k : Nat) (I : List En), k ≤ l.length ∧ i = .int .i64 (k : Nat) ∧ Hid (I.length ≤ k) ∧ Hid (D9 PT w wr a w1.heap.size I I)) (fun i _ => l.length - (intOf i).toNat)
    case atStart => exact ⟨0, [], Nat.zero_le _, rfl, Nat.le_refl _, H1.out⟩
    case round =>
      obtain ⟨k, I, hk, rfl, HI, HD⟩ := hrel
      clear H1
      by_cases hlt : k < l.length
      · obtain ⟨ad, hA, hc⟩ := (HS.out.below HD.out.all) k hlt
        simp only at hA hc
        subst hA
        have HFl := Lib.hid (HW.out l[k] (List.getElem_mem hlt))
        generalize l[k] = z at *
        go_upto_region 11 with (go_at_call 24; (with_reducible refine (HRV.out _ _).mono ?_); rintro e w2 ⟨rfl, hb⟩; have B2 := Lib.hid hb; clear hb)
        generalize bits BinOp.and IntKind.i64 (k : Int) 3 = j
        clear hc
        obtain ⟨e, he⟩ : ∃ e : En, e = ⟨⟨3, false, 0, normN z.toNat, ⟨#[]⟩⟩, j⟩ := ⟨_, rfl⟩
        have hal := (Below.refl w2.heap.size w2).alloc (Nat.le_refl _) (.cells #[.int .i64 3, .bool false, .int .i64 0, .float .f64 (normN z.toNat), .string ⟨#[]⟩, .int .i64 j] 34)
        have hnew : (w2.alloc (.cells #[.int .i64 3, .bool false, .int .i64 0, .float .f64 (normN z.toNat), .string ⟨#[]⟩, .int .i64 j] 34)).heap[w2.heap.size]? = some (.cells #[.int .i64 3, .bool false, .int .i64 0, .float .f64 (normN z.toNat), .string ⟨#[]⟩, .int .i64 j] 34 (0, 0)) := heap_alloc_new w2 _
        have hsz : (w2.alloc (.cells #[.int .i64 3, .bool false, .int .i64 0, .float .f64 (normN z.toNat), .string ⟨#[]⟩, .int .i64 j] 34)).heap.size = w2.heap.size + 1 := by simp
        generalize w2.alloc (.cells #[.int .i64 3, .bool false, .int .i64 0, .float .f64 (normN z.toNat), .string ⟨#[]⟩, .int .i64 j] 34) = wb at *
        have HO := Lib.hid (show EOk e from by rw [he]; exact real_ok _ HFl.out j)
        have HDB := Lib.hid (DK.of (g := w2.heap.size) HP.out HD.out (bnext B2.out hal).drew B2.out.size (by show w2.heap.size < wb.heap.size; omega))
        have HSB := Lib.hid (fun (W : World) (hW : W.heap[w2.heap.size]? = wb.heap[w2.heap.size]?) => box6 (x := ⟨⟨3, false, 0, normN z.toNat, ⟨#[]⟩⟩, j⟩) hnew hW)
        have hS0 := HSB.out wb.drew rfl
        have HIL := Lib.hid (show I.length ≤ 100 by have := HI.out; omega)
        have C1 := Lib.hid (dk_add HP.out HDB.out e HO.out (by have := HIL.out; omega))
        have C2 := Lib.hid (fun W (h : DK PT w2.heap.size w W a w1.heap.size (insE I e) I) => dk_radd HP.out h e HO.out (by have := HIL.out; omega))
        have HJ := Lib.hid (show (insE I e).length ≤ I.length + 1 from by rw [insE_len]; split <;> omega)
        generalize hq : hasE I e = q at C1 C2
        generalize hI2 : insE I e = I2 at C1 C2 HJ
        rw [he] at C1 C2
        clear hq hI2 HO he hal hnew hsz
        simp only at HSB hS0
        go_region_held3 (fun W => W.cell? ⟨w2.heap.size, 0, none⟩ = some (.int .i64 3) ∧ W.cell? ⟨w2.heap.size, 1, none⟩ = some (.bool false) ∧ W.cell? ⟨w2.heap.size, 2, none⟩ = some (.int .i64 0) ∧ W.cell? ⟨w2.heap.size, 3, none⟩ = some (.float .f64 (normN z.toNat)) ∧ W.cell? ⟨w2.heap.size, 4, none⟩ = some (.string ⟨#[]⟩) ∧ W.cell? ⟨w2.heap.size, 5, none⟩ = some (.int .i64 j)) (first | exact hS0 | exact hS3 | exact hS4)
          (first
            | (go_at_call 12; (with_reducible refine (C2.out _ H3.out).mono ?_); rintro e w4 ⟨rfl, h4, hk⟩; have H4 := Lib.hid h4; have hS4 := HSB.out _ (hk.trans HK3.out); clear h4 hk)
            | (go_at_call 11; (with_reducible refine C1.out.mono ?_); rintro e w3 ⟨rfl, h3, hk⟩; have H3 := Lib.hid h3; have HK3 := Lib.hid hk; have hS3 := HSB.out _ hk; clear h3 hk))
        clear hS0 hS3 hS4
        go_wp2
        exact ⟨⟨k + 1, I2, by omega, by go_num, (by simp only [Hid]; have h1 := HJ.out; have h2 := HI.out; omega), H4.out.d9⟩, by simp [intOf]; omega⟩
      · have hend : ¬ k < l.length := hlt
        obtain ⟨lo, hlo⟩ : ∃ lo : V, lo = ⟨3, false, 0, normN za.toNat, ⟨#[]⟩⟩ := ⟨_, rfl⟩
        obtain ⟨hi, hhi⟩ : ∃ hi : V, hi = ⟨3, false, 0, normN zb.toNat, ⟨#[]⟩⟩ := ⟨_, rfl⟩
        have HV1 := Lib.hid (show isB lo = true ∧ lo.f < 2 * S from by rw [hlo]; exact ⟨isB_real _, Fl.normN_lt _ hza⟩)
        have HV2 := Lib.hid (show isB hi = true ∧ hi.f < 2 * S from by rw [hhi]; exact ⟨isB_real _, Fl.normN_lt _ hzb⟩)
        have HIL := Lib.hid (show I.length ≤ 100 by have := HI.out; omega)
        have HAL := Lib.hid (fun W (hb : Below wr.heap.size wr W) => d9_all HP.out (HD.out.below HP.out hb) (by have := HIL.out; omega))
        have HR := Lib.hid (fun W (hb : Below wr.heap.size wr W) => d9_range HP.out (HD.out.below HP.out hb) lo hi HV1.out.1 HV1.out.2 HV2.out.1 HV2.out.2 (by have := HIL.out; omega))
        have HRr := Lib.hid (fun W (hb : Below wr.heap.size wr W) => d9r_range HP.out (HD.out.below HP.out hb) lo hi HV1.out.2 HV2.out.2 (by have := HIL.out; omega))
        have HN1 : Hid ((rngE I lo hi).length ≤ 900000) := by have h1 := rng_len I lo hi; have h2 := HIL.out; simp only [Hid]; omega
        obtain ⟨AJ, cJ, hcj, hrj⟩ := HD.out.items
        have HRJ := Lib.hid hrj
        have HCJ := Lib.hid (fun W (hb : Below wr.heap.size wr W) => show W.cell? ⟨w1.heap.size, 0, none⟩ = some (.slice AJ I.length cJ) from (hb.cell (World.block_lt_of_cell? wr _ hcj)).trans hcj)
        have HIN : Hid (I.length ≤ 900000) := by have h2 := HIL.out; simp only [Hid]; omega
        generalize rngE I lo hi = L1 at HR HRr HN1
        generalize hn1 : L1.length = n1 at *
        generalize hn2 : I.length = n2 at *
        have HN1e := Lib.hid hn1
        have HN2e := Lib.hid hn2
        rw [hlo, hhi] at HR HRr
        clear hlt hn1 hn2 hlo hhi HV1 HV2 hcj hrj
        go_upto_region 13 with fail
        have B0 := Lib.hid ((Below.refl wr.heap.size wr).drew)
        have hS0 := HCJ.out _ B0.out
        go_region_held3 (fun W => W.cell? ⟨w1.heap.size, 0, none⟩ = some (.slice AJ n2 cJ)) (first | exact hS0 | exact hS1 | exact hS2 | exact hS3 | exact hS4 | exact hS5 | exact hS6 | exact hS7 | exact hS8 | exact hS9 | exact hS10)
          (first
            | (go_at_call 20; (with_reducible refine (KN.out _).mono ?_); rintro e w10 ⟨rfl, hb⟩; have B10 := Lib.hid (bnext B9.out hb); have hS10 := HCJ.out _ B10.out; clear hb)
            | (go_at_call 16; have _ := B8; (with_reducible refine (esame_any _ _ L1 n1 _ _ _ R8.out R9.out HN1e.out HN1.out).mono ?_); rintro e w9 ⟨rfl, hb⟩; have B9 := Lib.hid (bnext B8.out hb); have hS9 := HCJ.out _ B9.out; clear hb)
            | (go_at_call 23; have _ := B7; (with_reducible refine (HRr.out _ B7.out).mono ?_); rintro e w8 ⟨A8, c8, rfl, hr, hb⟩; have B8 := Lib.hid (bnext B7.out hb); have R8 := Lib.hid (((R50.out.below B6s.out).below B7s.out).below hb); have R9 := Lib.hid hr; have hS8 := HCJ.out _ B8.out; clear hb hr)
            | (go_at_call 24; have _ := B6; (with_reducible refine (HRV.out _ _).mono ?_); rintro e w7 ⟨rfl, hb⟩; have B7s := Lib.hid hb; have B7 := Lib.hid (bnext B6.out hb); have hS7 := HCJ.out _ B7.out; clear hb)
            | (go_at_call 24; have _ := B5; (with_reducible refine (HRV.out _ _).mono ?_); rintro e w6 ⟨rfl, hb⟩; have B6s := Lib.hid hb; have B6 := Lib.hid (bnext B5.out hb); have hS6 := HCJ.out _ B6.out; clear hb)
            | (go_at_call 22; have _ := B4; (with_reducible refine (HR.out _ B4.out).mono ?_); rintro e w5 ⟨A5, c5, rfl, hr, hb⟩; have B5 := Lib.hid (bnext B4.out hb); have R50 := Lib.hid hr; have hS5 := HCJ.out _ B5.out; clear hb hr)
            | (go_at_call 24; have _ := B3; (with_reducible refine (HRV.out _ _).mono ?_); rintro e w4 ⟨rfl, hb⟩; have B4 := Lib.hid (bnext B3.out hb); have hS4 := HCJ.out _ B4.out; clear hb)
            | (go_at_call 24; have _ := B2; (with_reducible refine (HRV.out _ _).mono ?_); rintro e w3 ⟨rfl, hb⟩; have B3 := Lib.hid (bnext B2.out hb); have hS3 := HCJ.out _ B3.out; clear hb)
            | (go_at_call 16; (with_reducible refine (esame_any _ _ I n2 _ _ _ R1.out (HRJ.out.below B1.out) HN2e.out HIN.out).mono ?_); rintro e w2 ⟨rfl, hb⟩; have B2 := Lib.hid (bnext B1.out hb); have hS2 := HCJ.out _ B2.out; clear hb)
            | (go_at_call 17; (with_reducible refine (HAL.out _ B0.out).mono ?_); rintro e w1' ⟨A1, c1, rfl, hr, hb⟩; have B1 := Lib.hid (bnext B0.out hb); have R1 := Lib.hid hr; have hS1 := HCJ.out _ B1.out; clear hb hr))
        clear hS0 hS1 hS2 hS3 hS4 hS5 hS6 hS7 hS8 hS9 hS10
        go_wp2
        go_ret
        exact ⟨rfl, bnext HD.out.all B10.out⟩
end
end Go.Proofs.Ytmbbmgkbhfnchaa
