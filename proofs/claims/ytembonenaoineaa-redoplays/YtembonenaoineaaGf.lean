/- What Open of package redo does: contracts of it and of what it calls. Conditions: the Drum lies in memory. -/
import Derived.Test.YtembonenaoineaaGd
import Derived.Test.YtembonenaoineaaGr
namespace Go.Proofs.Ytembonenaoineaa
set_option maxRecDepth 100000
set_option linter.unusedVariables false
open Go.ChangeShapes Go.WideShapes Go.ChangeAt Go.RowKit
open Lb (encI encIs encS In64 encI_len nxtI resI nxtS resS)

theorem cell_al {W : World} {p : Addr} {v : Value} (o : Obj) (h : W.cell? p = some v) : (W.alloc o).cell? p = some v := (((Below.refl W.heap.size W).alloc (Nat.le_refl _) o).cell (World.block_lt_of_cell? W _ h)).trans h
set_option maxHeartbeats 1000000 in
theorem newest_any {F : Nat → Prop} {w : World} {a : Nat} {s : DS} (h : PD F w a s) (h4 : 4 ≤ s.now.length) :
    Calls Try.prog 35 #[.pointer (some ⟨a, 0, none⟩)] w (HdIs (newest s.now) w) := by
  have hb0 := (Below.refl w.heap.size w).alloc (Nat.le_refl _) (.cells #[.int .i64 0, .int .i64 0, .int .i64 0] 70)
  have HB0 := Lib.hid hb0
  have HP0 := Lib.hid (h.below hb0)
  have HN : Hid (newest s.now = if (hdAt s.now 0).n < (hdAt s.now 1).n then hdAt s.now 1 else hdAt s.now 0) := rfl
  clear hb0 h
  go_enter Try.func35, Try.ntmps35
  go_wp2_with fail
  refine (headerIn_any HP0.out 0 (by omega)).mono ?_
  rintro e w1 ⟨rfl, hb1⟩
  have HP1 := Lib.hid (HP0.out.below hb1)
  have HB1 : Hid (Below (w.heap.size + 1) (w.alloc (.cells #[.int .i64 0, .int .i64 0, .int .i64 0] 70)) w1) := by simp only [Hid]; simpa using hb1
  have hz1 := hb1.size
  simp only [World.size_alloc] at hz1
  clear hb1
  go_wp2_with fail
  refine (headerIn_any HP1.out 1 (by omega)).mono ?_
  rintro e w2 ⟨rfl, hb2⟩
  have HB2 := Lib.hid (HB1.out.trans (hb2.mono (by omega)))
  have hz2 := hb2.size
  clear hb2 HB1 HP1 HP0
  generalize hdAt s.now 0 = h0 at *
  generalize hdAt s.now 1 = h1 at *
  unfold hV hdV
  have HCR : Hid (∀ W, Below (w.heap.size + 1) (w.alloc (.cells #[.int .i64 0, .int .i64 0, .int .i64 0] 70)) W → W.cell? ⟨w.heap.size, 0, none⟩ = some (.int .i64 0) ∧ W.cell? ⟨w.heap.size, 1, none⟩ = some (.int .i64 0) ∧ W.cell? ⟨w.heap.size, 2, none⟩ = some (.int .i64 0) ∧ ∀ o, W.frozen? ⟨w.heap.size, o, none⟩ = false) := fun W hW => by
    obtain ⟨hc, hf⟩ := bcell (W := w.alloc (.cells #[.int .i64 0, .int .i64 0, .int .i64 0] 70)) (w1 := W) (by simpa using hW)
    refine ⟨?_, ?_, ?_, fun o => ?_⟩
    · rw [hc _ _ (by simp), cell_of_row _ _ _ _ _ _ (heap_alloc_new w _)]; rfl
    · rw [hc _ _ (by simp), cell_of_row _ _ _ _ _ _ (heap_alloc_new w _)]; rfl
    · rw [hc _ _ (by simp), cell_of_row _ _ _ _ _ _ (heap_alloc_new w _)]; rfl
    · rw [hf _ _ (by simp)]; exact frozen_of_row _ _ _ _ _ (heap_alloc_new w _)
  obtain ⟨p0, p1, p2, pf⟩ := HCR.out w2 HB2.out
  have hne : w.heap.size < w2.heap.size := by omega
  clear HCR
  by_cases hlt : h0.n < h1.n
  · have HR : Hid (newest s.now = h1) := by simp only [Hid]; rw [HN.out, if_pos hlt]
    have hd : decide (h0.n < h1.n) = true := by simpa using hlt
    go_wp2
    obtain ⟨s0, s1, s2⟩ := set3 (.int .i64 (h1.n : Nat)) (.int .i64 (h1.k : Nat)) (.int .i64 (h1.z : Nat)) p0 p1 p2
    have hb := below_set3 (HB0.out.trans (HB2.out.mono (by omega))) (Nat.le_refl w.heap.size) (.int .i64 (h1.n : Nat)) (.int .i64 (h1.k : Nat)) (.int .i64 (h1.z : Nat))
    have hb2 := (hb.alloc hb.size (.cells #[.int .i64 (h0.n : Nat), .int .i64 (h0.k : Nat), .int .i64 (h0.z : Nat)] 70))
    have hb3 := hb2.alloc hb2.size (.cells #[.int .i64 (h1.n : Nat), .int .i64 (h1.k : Nat), .int .i64 (h1.z : Nat)] 70)
    refine bodyPost_ret (v := hV h1) (by simp [results, Try.results35, go_sem, cell_al _ (cell_al _ s0), cell_al _ (cell_al _ s1), cell_al _ (cell_al _ s2)]; rfl) rfl ⟨by rw [HR.out], hb3⟩
  · have HR : Hid (newest s.now = h0) := by simp only [Hid]; rw [HN.out, if_neg hlt]
    have hd : decide (h0.n < h1.n) = false := by simpa using hlt
    go_wp2
    obtain ⟨s0, s1, s2⟩ := set3 (.int .i64 (h0.n : Nat)) (.int .i64 (h0.k : Nat)) (.int .i64 (h0.z : Nat)) p0 p1 p2
    have hb := below_set3 (HB0.out.trans (HB2.out.mono (by omega))) (Nat.le_refl w.heap.size) (.int .i64 (h0.n : Nat)) (.int .i64 (h0.k : Nat)) (.int .i64 (h0.z : Nat))
    have hb2 := (hb.alloc hb.size (.cells #[.int .i64 (h0.n : Nat), .int .i64 (h0.k : Nat), .int .i64 (h0.z : Nat)] 70))
    have hb3 := hb2.alloc hb2.size (.cells #[.int .i64 (h1.n : Nat), .int .i64 (h1.k : Nat), .int .i64 (h1.z : Nat)] 70)
    refine bodyPost_ret (v := hV h0) (by simp [results, Try.results35, go_sem, cell_al _ (cell_al _ s0), cell_al _ (cell_al _ s1), cell_al _ (cell_al _ s2)]; rfl) rfl ⟨by rw [HR.out], hb3⟩
theorem Own.take {B : Nat} {w : World} {g : Addr} {n c k : Nat} {l : List UInt8} (h : Own B w (.slice (some g) n c) l) (hn : n = l.length) (hk : k ≤ n) : Own B w (.slice (some g) k c) (l.take k) := by
  subst hn
  have h' := h
  rcases h with ⟨h0, ⟨h1, _⟩ | ⟨g', cap, cur, hv, hb, hh, hn, hm, hs, ht⟩⟩
  · cases h1
  · injection hv with e1 e2 e3
    injection e1 with e1
    subst e1; subst e3
    have hl : (l.take k).length = k := by rw [List.length_take]; omega
    refine ⟨by rw [bcs_len]; simp, .inr ⟨g', c, cur, by rw [hl], hb, hh, by rw [hl]; omega, hm, hs, ?_⟩⟩
    rw [hl, Nat.mul_one]
    rw [Nat.mul_one] at ht
    have e : bcs (l.take k) = (bcs l).take k := by simp [bcs]
    rw [e, ← ht, List.take_take, show min k l.length = k by omega]
set_option maxHeartbeats 1000000 in
theorem content_any {F : Nat → Prop} {w : World} {a : Nat} {s : DS} (h : PD F w a s) (h4 : 4 ≤ s.now.length) (hd : Hd) (hk : hd.k ≤ 1) (hz : hd.z ≤ bk s.now * 64) :
    Calls Try.prog 37 #[.pointer (some ⟨a, 0, none⟩), hV hd] w (Gives w.heap.size (cont s.now hd) w) := by
  have hok := h.ok
  have hfew := hok.few
  have hbk := bk_few hfew
  have hbk1 : 1 ≤ bk s.now := by unfold bk; omega
  have hin := fst_bd h4 hk
  have HC := Lib.hid (bankL_cont hok.sec (h := hd) (m := bk s.now) hin hz)
  have HLEN : Hid (∀ j, j ≤ bk s.now → (bankL s.now hd.k j).length = j * 64) := fun j hj => bankL_len hok.sec (by omega)
  have HSN : Hid (∀ j, j < bk s.now → bankL s.now hd.k (j + 1) = bankL s.now hd.k j ++ s.now.getD (fst s.now hd.k + j) []) := fun j hj => bankL_snoc (by omega)
  have hz2 : hd.z ≤ 10000 := by omega
  obtain ⟨n, k, z⟩ := hd
  simp only at hk hz HC HLEN HSN hin hz2
  unfold hV hdV
  simp only
  have hb0 := (Below.refl w.heap.size w).alloc (Nat.le_refl _) (.cells #[.int .i64 (n : Nat), .int .i64 (k : Nat), .int .i64 (z : Nat)] 70)
  have HB0 := Lib.hid hb0
  have HP0 := Lib.hid (h.below hb0)
  have HF := Lib.hid (firstSector_any HP0.out k hk)
  have HK := Lib.hid (bankSectors_any HP0.out)
  have HCL : Hid (∀ W, Below (w.heap.size + 1) (w.alloc (.cells #[.int .i64 (n : Nat), .int .i64 (k : Nat), .int .i64 (z : Nat)] 70)) W → W.cell? ⟨w.heap.size, 2, none⟩ = some (.int .i64 (z : Nat))) := fun W hW => by
    obtain ⟨hc, _⟩ := bcell (W := w.alloc (.cells #[.int .i64 (n : Nat), .int .i64 (k : Nat), .int .i64 (z : Nat)] 70)) (w1 := W) (by simpa using hW)
    rw [hc _ _ (by simp), cell_of_row _ _ _ _ _ _ (heap_alloc_new w _)]; rfl
  clear hb0 h hok
  go_enter Try.func37, Try.ntmps37
  go_wp2_with fail
  refine HF.out.mono ?_
  rintro e w' ⟨rfl, rfl⟩
  go_wp2_with fail
  refine HK.out.mono ?_
  rintro e w' ⟨rfl, rfl⟩
  clear HF HK
  go_wp2
  go_loopw [5, 14] (fun b i wr => ∃ j : Nat, j ≤ bk s.now ∧ i = .int .i64 j ∧ Hid (Own (w.heap.size + 1) wr b (bankL s.now k j)) ∧ Hid (Below (w.heap.size + 1) (w.alloc (.cells #[.int .i64 (n : Nat), .int .i64 (k : Nat), .int .i64 (z : Nat)] 70)) wr)) (fun _ i _ => bk s.now - (intOf i).toNat)
  case atStart => exact ⟨0, Nat.zero_le _, rfl, Own.nil _ _, Below.refl _ _⟩
  case round =>
    obtain ⟨j, hj, rfl, HO, HB⟩ := hrel
    have hzr := HB.out.size
    simp only [World.size_alloc] at hzr
    by_cases hlt : j < bk s.now
    · have HPr := Lib.hid (HP0.out.below (by simpa using HB.out))
      have HRD := Lib.hid (rd_at s (fst s.now k + j))
      have hl1 := HLEN.out j hj
      have hl2 := HLEN.out (j + 1) hlt
      have hs64 : (s.now.getD (fst s.now k + j) []).length = 64 := by
        have e := congrArg List.length (HSN.out j hlt)
        rw [List.length_append] at e; omega
      have HS64 := Lib.hid hs64
      have HL1 : Hid ((bankL s.now k j).length ≤ 10000) := by simp only [Hid]; omega
      have HRR := Lib.hid (read_any HPr.out ((fst s.now k + j : Nat) : Int))
      rw [HRD.out] at HRR
      simp only [Int.natCast_add] at HRR
      clear hl1 hl2 hs64
      go_wp2_with fail
      refine HRR.out.mono ?_
      rintro e w2 ⟨v2, rfl, ho2, hb2⟩
      obtain ⟨A2, c2, rfl, hbs2, _⟩ := ho2.open
      have hzz := hb2.size
      have HBS2 := Lib.hid hbs2
      have HO2 := Lib.hid (HO.out.below hb2)
      have HB2 := Lib.hid (HB.out.trans (hb2.mono (by omega)))
      clear ho2 hb2 hbs2 HRR
      go_wp2_with (at_builtin; refine wp_app rfl _ _ rfl (w.heap.size + 1) _ (bankL s.now k j) HO2.out rfl A2 (s.now.getD (fst s.now k + j) []) _ c2 rfl rfl HBS2.out (by rw [HS64.out]; have := HL1.out; omega) (by omega) ?_; intro v3 w3 h3 hb3)
      have HO3 : Hid (Own (w.heap.size + 1) w3 v3 (bankL s.now k (j + 1))) := by simp only [Hid]; rw [HSN.out j hlt]; exact h3
      have HB3 := Lib.hid (HB2.out.trans hb3)
      clear h3 hb3
      go_wp2
      refine ⟨⟨j + 1, by omega, by go_num, HO3.out, HB3.out⟩, by simp [intOf]; omega⟩
    · obtain rfl : j = bk s.now := by omega
      have hlen := HLEN.out (bk s.now) (Nat.le_refl _)
      obtain ⟨g, c, rfl, hg1, hg2, _⟩ := own_at HO.out (by omega)
      have hc1 : (bankL s.now k (bk s.now)).length ≤ c := (own_bs HO.out).cap
      have hzc : z ≤ c := by omega
      have hzl : z ≤ (bankL s.now k (bk s.now)).length := by omega
      have HT := Lib.hid (HO.out.take rfl hzl)
      have q2 := HCL.out wr HB.out
      have sl := slice_to (some ⟨g, 0, none⟩) (bankL s.now k (bk s.now)).length c z hzc
      have HCC : Hid ((bankL s.now k (bk s.now)).take z = cont s.now ⟨n, k, z⟩) := HC.out
      generalize bankL s.now k (bk s.now) = bb at *
      clear HLEN HSN hlen hzc hc1
      go_wp2
      go_ret
      refine ⟨_, rfl, ?_, HB0.out.trans (HB.out.mono (by omega))⟩
      rw [← HCC.out]
      exact HT.out.mono (by omega)
end Go.Proofs.Ytembonenaoineaa
