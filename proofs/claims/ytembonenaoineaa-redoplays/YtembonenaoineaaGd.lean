/- Headers as package redo reads them: contracts. Conditions: the Drum lies in memory and has the sector. -/
import Derived.Test.YtembonenaoineaaGb
namespace Go.Proofs.Ytembonenaoineaa
set_option maxRecDepth 100000
set_option linter.unusedVariables false
open Go.ChangeShapes Go.WideShapes Go.ChangeAt Go.RowKit
open Lb (encI encIs encS In64 encI_len nxtI resI)

theorem set3 {W : World} {g : Nat} {u0 u1 u2 : Value} (x y z : Value) (h0 : W.cell? ⟨g, 0, none⟩ = some u0) (h1 : W.cell? ⟨g, 1, none⟩ = some u1) (h2 : W.cell? ⟨g, 2, none⟩ = some u2) :
    (((W.setCell ⟨g, 0, none⟩ x).setCell ⟨g, 1, none⟩ y).setCell ⟨g, 2, none⟩ z).cell? ⟨g, 0, none⟩ = some x ∧ (((W.setCell ⟨g, 0, none⟩ x).setCell ⟨g, 1, none⟩ y).setCell ⟨g, 2, none⟩ z).cell? ⟨g, 1, none⟩ = some y ∧
    (((W.setCell ⟨g, 0, none⟩ x).setCell ⟨g, 1, none⟩ y).setCell ⟨g, 2, none⟩ z).cell? ⟨g, 2, none⟩ = some z := by
  refine ⟨?_, ?_, ?_⟩
  · rw [World.cell?_setCell_other _ _ _ _ (by simp), World.cell?_setCell_other _ _ _ _ (by simp)]; exact World.cell?_setCell_same _ _ _ h0
  · rw [World.cell?_setCell_other _ _ _ _ (by simp)]
    exact World.cell?_setCell_same _ _ _ (by rw [World.cell?_setCell_other _ _ _ _ (by simp)]; exact h1)
  · exact World.cell?_setCell_same _ _ _ (by rw [World.cell?_setCell_other _ _ _ _ (by simp), World.cell?_setCell_other _ _ _ _ (by simp)]; exact h2)
theorem below_set3 {B : Nat} {w W : World} {g : Nat} (h : Below B w W) (hg : B ≤ g) (x y z : Value) : Below B w (((W.setCell ⟨g, 0, none⟩ x).setCell ⟨g, 1, none⟩ y).setCell ⟨g, 2, none⟩ z) :=
  ((h.setCell (p := ⟨g, 0, none⟩) hg x).setCell (p := ⟨g, 1, none⟩) hg y).setCell (p := ⟨g, 2, none⟩) hg z
set_option maxHeartbeats 4000000 in
theorem headerIn_any {F : Nat → Prop} {w : World} {a : Nat} {s : DS} (h : PD F w a s) (i : Nat) (hi : i < s.now.length) :
    Calls Try.prog 51 #[.pointer (some ⟨a, 0, none⟩), .int .i64 (i : Nat)] w (HdIs (hdAt s.now i) w) := by
  have HP := Lib.hid h
  have hsl := sec_len h.ok hi
  have HRD := Lib.hid (rd_at s i)
  clear h
  generalize hl : s.now.getD i [] = l at *
  have HAT : Hid (hdAt s.now i = hdIn (bk s.now) l) := by simp only [Hid, hdAt]; rw [hl]
  have HSL := Lib.hid hsl
  clear hl hsl
  have hb0 := (Below.refl w.heap.size w).alloc (Nat.le_refl _) (.cells #[.int .i64 0, .int .i64 0, .int .i64 0] 70)
  have HB0 := Lib.hid hb0
  have HP0 := Lib.hid (HP.out.below hb0)
  clear hb0
  go_enter Try.func51, Try.ntmps51
  go_wp2_with fail
  refine (read_any HP0.out (i : Nat)).mono ?_
  rintro e w1 ⟨v1, rfl, ho1, hb1⟩
  rw [HRD.out] at ho1
  obtain ⟨A1, c1, hv1, hbs1, hA1⟩ := ho1.open
  have HA1 : Hid (∀ ad, A1 = some ad → ad.block < w1.heap.size) := fun ad e => (hA1 ad e).2.2
  clear hA1
  have hv2 : v1 = .slice A1 64 c1 := by rw [hv1, HSL.out]
  subst hv2
  have HBS1 := Lib.hid hbs1
  have hz1 := hb1.size
  simp only [World.size_alloc] at hz1
  have HB1 : Hid (Below (w.heap.size + 1) (w.alloc (.cells #[.int .i64 0, .int .i64 0, .int .i64 0] 70)) w1) := by simp only [Hid]; simpa using hb1
  have HO := Lib.hid (open_any A1 l c1 w1 hbs1 (by rw [HSL.out]; decide))
  rw [HSL.out] at HO
  clear ho1 hb1 hv1 hbs1
  go_wp2_with fail
  refine HO.out.mono ?_
  rintro e w2 ⟨ca, g, rfl, hc2, hb2, hca, hg⟩
  have hz2 := hb2.size
  have HB2 := Lib.hid (HB1.out.trans (hb2.mono (by omega)))
  have HBS2 := Lib.hid (HBS1.out.below hb2)
  have HC2 := Lib.hid hc2
  clear hc2 hb2 hg
  go_wp2_with fail
  refine (cint_any ca g (some l) w2 HC2.out).mono ?_
  rintro e w3 ⟨rfl, hc3, hg3⟩
  have hz3 := hg3.size
  have HB3 := Lib.hid (below_grown HB2.out hg3 (by simp) (by omega))
  have HBS3 := Lib.hid (HBS2.out.kept hg3 (fun ad e h => by have := HA1.out ad e; injection h with h; omega))
  have HC3 := Lib.hid hc3
  clear hc3 hg3
  go_wp2_with fail
  refine (cint_any ca g _ w3 HC3.out).mono ?_
  rintro e w4 ⟨rfl, hc4, hg4⟩
  have hz4 := hg4.size
  have HB4 := Lib.hid (below_grown HB3.out hg4 (by simp) (by omega))
  have HBS4 := Lib.hid (HBS3.out.kept hg4 (fun ad e h => by have := HA1.out ad e; injection h with h; omega))
  have HC4 := Lib.hid hc4
  clear hc4 hg4
  go_wp2_with fail
  refine (cint_any ca g _ w4 HC4.out).mono ?_
  rintro e w5 ⟨rfl, hc5, hg5⟩
  have hz5 := hg5.size
  have HB5 := Lib.hid (below_grown HB4.out hg5 (by simp) (by omega))
  have HBS5 := Lib.hid (HBS4.out.kept hg5 (fun ad e h => by have := HA1.out ad e; injection h with h; omega))
  clear hc5 hg5
  have b1 := resI_bd (some l)
  have b2 := resI_bd (nxtI (some l))
  have b3 := resI_bd (nxtI (nxtI (some l)))
  generalize hn : resI (some l) = n at *
  generalize hk : resI (nxtI (some l)) = k at *
  generalize hz : resI (nxtI (nxtI (some l))) = z at *
  have HOK : Hid (hdOk (bk s.now) l = (hvB (bk s.now) n k z && decide (pad (hdE n k z) = l))) := by simp only [Hid]; subst hn; subst hk; subst hz; rfl
  have HYES : Hid (hdOk (bk s.now) l = true → hdIn (bk s.now) l = ⟨n.toNat, k.toNat, z.toNat⟩ ∧ n = (n.toNat : Nat) ∧ k = (k.toNat : Nat) ∧ z = (z.toNat : Nat)) := by
    simp only [Hid]
    subst hn; subst hk; subst hz
    exact hd_yes
  have HB64 : Hid (In64 n ∧ In64 k ∧ In64 z) := ⟨b1, b2, b3⟩
  clear hn hk hz b1 b2 b3 HC2 HC3 HC4 HBS1 HBS2 HBS3 HBS4 HB1 HB2 HB3 HB4 HO
  have hb6 := (Below.refl w5.heap.size w5).alloc (Nat.le_refl _) (.cells #[.int .i64 n, .int .i64 k, .int .i64 z] 70)
  have HB6 := Lib.hid (HB5.out.trans (hb6.mono (by omega)))
  have HBW : Hid (∀ W, Below (w.heap.size + 1) (w.alloc (.cells #[.int .i64 0, .int .i64 0, .int .i64 0] 70)) W → Below w.heap.size w W) := fun W hW => HB0.out.trans (hW.mono (by omega))
  have HBS6 := Lib.hid (HBS5.out.below hb6)
  have HP6 := Lib.hid (HP.out.below (HBW.out _ HB6.out))
  have HCL : Hid (∀ W, Below (w5.heap.size + 1) (w5.alloc (.cells #[.int .i64 n, .int .i64 k, .int .i64 z] 70)) W → W.cell? ⟨w5.heap.size, 0, none⟩ = some (.int .i64 n) ∧ W.cell? ⟨w5.heap.size, 1, none⟩ = some (.int .i64 k) ∧ W.cell? ⟨w5.heap.size, 2, none⟩ = some (.int .i64 z)) := fun W hW => by
    obtain ⟨hc, _⟩ := bcell (W := w5.alloc (.cells #[.int .i64 n, .int .i64 k, .int .i64 z] 70)) (w1 := W) (by simpa using hW)
    refine ⟨?_, ?_, ?_⟩ <;> (rw [hc _ _ (by simp), cell_of_row _ _ _ _ _ _ (heap_alloc_new w5 _)]; rfl)
  have HCR : Hid (∀ W, Below (w.heap.size + 1) (w.alloc (.cells #[.int .i64 0, .int .i64 0, .int .i64 0] 70)) W → W.cell? ⟨w.heap.size, 0, none⟩ = some (.int .i64 0) ∧ W.cell? ⟨w.heap.size, 1, none⟩ = some (.int .i64 0) ∧ W.cell? ⟨w.heap.size, 2, none⟩ = some (.int .i64 0) ∧ ∀ o, W.frozen? ⟨w.heap.size, o, none⟩ = false) := fun W hW => by
    obtain ⟨hc, hf⟩ := bcell (W := w.alloc (.cells #[.int .i64 0, .int .i64 0, .int .i64 0] 70)) (w1 := W) (by simpa using hW)
    refine ⟨?_, ?_, ?_, fun o => ?_⟩
    · rw [hc _ _ (by simp), cell_of_row _ _ _ _ _ _ (heap_alloc_new w _)]; rfl
    · rw [hc _ _ (by simp), cell_of_row _ _ _ _ _ _ (heap_alloc_new w _)]; rfl
    · rw [hc _ _ (by simp), cell_of_row _ _ _ _ _ _ (heap_alloc_new w _)]; rfl
    · rw [hf _ _ (by simp)]; exact frozen_of_row _ _ _ _ _ (heap_alloc_new w _)
  clear hb6 HBS5 HB5
  go_wp2_with fail
  refine (valid_any HP6.out n k z).mono ?_
  rintro e w7 ⟨rfl, hb7⟩
  have hz7 := hb7.size
  simp only [World.size_alloc] at hz7
  have HB7 := Lib.hid (HB6.out.trans (hb7.mono (by simp; omega)))
  have HBS7 := Lib.hid (HBS6.out.below hb7)
  obtain ⟨q0, q1, q2⟩ := HCL.out w7 (by simpa using hb7)
  have HC7 : Hid (Below (w5.heap.size + 1) (w5.alloc (.cells #[.int .i64 n, .int .i64 k, .int .i64 z] 70)) w7) := by simp only [Hid]; simpa using hb7
  clear hb7 HB6 HBS6 HP6
  cases hval : hvB (bk s.now) n k z with
  | false =>
    rw [hval] at HOK
    have HNO : Hid (hdAt s.now i = hd0) := by simp only [Hid]; rw [HAT.out]; exact hd_no (by rw [HOK.out]; rfl)
    obtain ⟨p0, p1, p2, pf⟩ := HCR.out w7 HB7.out
    clear hval HCR HCL HYES HOK HC7 q0 q1 q2
    go_wp2
    obtain ⟨s0, s1, s2⟩ := set3 (.int .i64 0) (.int .i64 0) (.int .i64 0) p0 p1 p2
    rw [HNO.out]
    refine bodyPost_ret (v := hV hd0) (by simp [results, Try.results51, go_sem, s0, s1, s2]; rfl) rfl ⟨rfl, below_set3 (HBW.out _ HB7.out) (Nat.le_refl _) _ _ _⟩
  | true =>
    rw [hval] at HOK
    clear hval
    go_wp2_with fail
    refine (sector_any n k z HB64.out.1 HB64.out.2.1 HB64.out.2.2).mono ?_
    rintro e w8 ⟨v8, rfl, ho8, hb8⟩
    obtain ⟨A8, c8, hv8, hbs8, _⟩ := ho8.open
    have hz8 := hb8.size
    have HB8 := Lib.hid (HB7.out.trans (hb8.mono (by omega)))
    have HBS8 := Lib.hid (HBS7.out.below hb8)
    have HC8 := Lib.hid (HC7.out.trans (hb8.mono (by omega)))
    have hlen : (pad (hdE n k z)).length = 64 := pad_len (Nat.le_trans (hdE_len HB64.out.1 HB64.out.2.1 HB64.out.2.2) (by decide))
    have HEQ := Lib.hid (equal_any A8 (pad (hdE n k z)) c8 A1 l c1 hbs8 HBS8.out (by rw [hlen]; decide))
    rw [hlen] at hv8 HEQ
    rw [HSL.out] at HEQ
    subst hv8
    clear ho8 hb8 hbs8 hlen q0 q1 q2
    go_wp2_with fail
    refine HEQ.out.mono ?_
    rintro e w9 ⟨rfl, hb9⟩
    have HB9 := Lib.hid (HB8.out.trans (hb9.mono (by omega)))
    obtain ⟨q0, q1, q2⟩ := HCL.out w9 (HC8.out.trans (hb9.mono (by omega)))
    obtain ⟨p0, p1, p2, pf⟩ := HCR.out w9 HB9.out
    clear hb9 HC7 HC8 HCL HCR HB7 HB8 HBS7 HBS8 HEQ
    cases hdq : decide (pad (hdE n k z) = l) with
    | false =>
      have HNO : Hid (hdAt s.now i = hd0) := by simp only [Hid]; rw [HAT.out]; exact hd_no (by rw [HOK.out, hdq]; rfl)
      clear hdq HYES HOK
      go_wp2
      obtain ⟨s0, s1, s2⟩ := set3 (.int .i64 0) (.int .i64 0) (.int .i64 0) p0 p1 p2
      rw [HNO.out]
      refine bodyPost_ret (v := hV hd0) (by simp [results, Try.results51, go_sem, s0, s1, s2]; rfl) rfl ⟨rfl, below_set3 (HBW.out _ HB9.out) (Nat.le_refl _) _ _ _⟩
    | true =>
      have HY := Lib.hid (HYES.out (by rw [HOK.out, hdq]; rfl))
      clear hdq HYES HOK
      go_wp2
      obtain ⟨s0, s1, s2⟩ := set3 (.int .i64 n) (.int .i64 k) (.int .i64 z) p0 p1 p2
      obtain ⟨y1, y2, y3, y4⟩ := HY.out
      have e : hV (hdAt s.now i) = hdV n k z := by rw [HAT.out, y1]; unfold hV hdV; simp only; rw [← y2, ← y3, ← y4]
      refine bodyPost_ret (v := hdV n k z) (by simp [results, Try.results51, go_sem, s0, s1, s2]; rfl) rfl ⟨by rw [e], below_set3 (HBW.out _ HB9.out) (Nat.le_refl _) _ _ _⟩
end Go.Proofs.Ytembonenaoineaa
