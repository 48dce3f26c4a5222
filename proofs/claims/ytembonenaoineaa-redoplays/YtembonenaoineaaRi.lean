/- What Write of the reference does. Conditions: the Drum lies in memory, and what is written outside of it; at most 1000 writes wait. -/
import Derived.Test.YtembonenaoineaaRh
namespace Go.Proofs.Ytembonenaoineaa
set_option maxRecDepth 100000
set_option linter.unusedVariables false
open Go.ChangeShapes Go.WideShapes Go.ChangeAt Go.RowKit
theorem infoQ : (Try.prog.info? 91).map (fun i => (i.zero, i.size, i.bytes)) = some (some (.agg #[.int .i64 0, .string ByteArray.empty]), 2, 24) := by kernel_rfl
/-- A string written over a row of strings. -/
theorem own_str {w : World} {g c n : Nat} {l : List (List UInt8)} (h : w.ownsRow 0 9 1 (.slice (some ⟨g, 0, none⟩) n c) n (l.map stc)) (j : Nat) (q : List UInt8) :
    (w.setCell ⟨g, j, none⟩ (.string (bstr q))).ownsRow 0 9 1 (.slice (some ⟨g, 0, none⟩) n c) n ((l.set j q).map stc) := by
  have := (World.ownsRow.stored h j (.string (bstr q))).1
  rw [List.map_set]
  exact this
theorem rwrite_end {F : Nat → Prop} {w w2 w3 w4 : World} {b g c : Nat} {ov wv : Value} {n : Int} {d : Bool} {s : DS} (h : RM F w b ov (.slice (some ⟨g, 0, none⟩) s.now.length c) wv n d s) {j : Nat} {q : List UInt8} (hj : j < s.now.length) (hq : q.length = 64)
    (hb2 : Below w.heap.size w w2) (hb3 : Below w2.heap.size (w2.setCell ⟨g, j, none⟩ (.string (bstr q))) w3)
    {g' cap : Nat} (ho : w4.ownsRow 0 91 2 (.slice (some ⟨g', 0, none⟩) (s.pend.length + 1) cap) (s.pend.length + 1) (qcs s.pend ++ qc (j, q))) (hg : w3.grownBy w4 wv.ownBlock) (hat : wv.ownBlock = some g' ∨ g' = w3.heap.size) (hlt : g' < w4.heap.size) :
    DoesR F w b (.int .i64 0) (put s j q) (.returned (.int .i64 0)) (w4.setCell ⟨b, 2, none⟩ (.slice (some ⟨g', 0, none⟩) (s.pend.length + 1) cap)) := by
  have s2 := hb2.size
  have s3 := hb3.size
  have s4 := hg.size
  have hz3 : (w2.setCell ⟨g, j, none⟩ (.string (bstr q))).heap.size = w2.heap.size := by simp [World.setCell]
  rw [hz3] at s3
  have hltb := h.lt b h.fb
  have hltg := h.lt g (h.fs g rfl)
  have nbw : wv.ownBlock ≠ some b := h.nb h.rw (by decide)
  have nbs : g ≠ b := fun e => h.nb h.rs (by decide) (by simp [Value.ownBlock, e])
  have ngw : wv.ownBlock ≠ some g := h.nw h.rs rfl
  have hgb : g' ≠ b := by
    rcases hat with hat | hat
    · intro e; subst e; exact nbw hat
    · omega
  have hk4 : ∀ k, k < w.heap.size → k ≠ g → wv.ownBlock ≠ some k → w4.heap[k]? = w.heap[k]? := fun k hk h1 h3 => by
    rw [hg.block k (by omega) (fun e => h3 e.symm), hb3.block k (by omega), heap_setCell_other _ _ _ _ h1, hb2.block k hk]
  have hk : ∀ k, k < w.heap.size → k ≠ g → wv.ownBlock ≠ some k → k ≠ b → (w4.setCell ⟨b, 2, none⟩ (.slice (some ⟨g', 0, none⟩) (s.pend.length + 1) cap)).heap[k]? = w.heap[k]? := fun k hk h1 h3 ha => by
    rw [heap_setCell_other _ _ _ _ ha]; exact hk4 k hk h1 h3
  have hz : (w4.setCell ⟨b, 2, none⟩ (.slice (some ⟨g', 0, none⟩) (s.pend.length + 1) cap)).heap.size = w4.heap.size := by simp [World.setCell]
  have hr1 : w2.ownsRow 0 9 1 (.slice (some ⟨g, 0, none⟩) s.now.length c) s.now.length (s.now.map stc) := own_same h.rs (fun k e => by simp [Value.ownBlock] at e; subst e; exact hb2.block _ hltg)
  have hr1' := own_str hr1 j q
  have hg14 : (w4.setCell ⟨b, 2, none⟩ (.slice (some ⟨g', 0, none⟩) (s.pend.length + 1) cap)).heap[g]? = (w2.setCell ⟨g, j, none⟩ (.string (bstr q))).heap[g]? := by
    rw [heap_setCell_other _ _ _ _ nbs, hg.block g (by omega) (fun e => ngw e.symm), hb3.block g (by omega)]
  have hba : w4.heap[b]? = _ := (hk4 b hltb (fun e => nbs e.symm) nbw).trans h.blk
  have hlen : (put s j q).now.length = s.now.length := by simp [put]
  have hpl : (put s j q).pend.length = s.pend.length + 1 := by simp [put]
  refine ⟨rfl, RM.own (put_ok h.ok hj hq) ?_ (.inl h.fb) (fun k e => .inl (h.fo k e)) (fun k e => .inl (h.fs k e)) ?_ h.ne (heap_setCell_same w4 b 2 _ _ _ hba) ?_ ?_ ?_ h.life, ?_⟩
  · intro k hk'
    rw [hz]
    rcases hk' with hk' | hk'
    · have := h.lt k hk'; omega
    · rw [hz] at hk'; exact hk'.2
  · intro k e
    simp [Value.ownBlock] at e
    subst e
    rcases hat with hat | hat
    · exact .inl (h.fw _ hat)
    · exact .inr ⟨by omega, by rw [hz]; exact hlt⟩
  · rw [hlen]
    exact own_same h.ro (fun k e => hk k (h.lt k (h.fo k e)) (fun e' => h.ne k e (by simp [Value.ownBlock, e'])) (h.nw h.ro e) (fun e' => by subst e'; exact h.nb h.ro (by decide) e))
  · rw [hlen]
    exact own_same hr1' (fun k e => by simp [Value.ownBlock] at e; subst e; exact hg14)
  · rw [hpl, show (put s j q).pend = s.pend ++ [(j, q)] from rfl, qcs_snoc]
    exact ownsRow_setCell_other ho (by simp only [Value.ownBlock]; intro e; injection e with e; exact hgb e) _
  · exact ⟨by simp only [World.setCell]; exact hg.os.trans (hb3.os.trans (hb2.os)), by simp only [World.setCell]; exact hg.tape.trans (hb3.tape.trans (hb2.tape)), by simp only [World.setCell]; exact hg.output.trans (hb3.output.trans (hb2.output)), by rw [hz]; omega, fun k hk' hF =>
      hk k hk' (fun e => hF (e ▸ h.fs g rfl)) (fun e => hF (h.fw k e)) (fun e => hF (e ▸ h.fb))⟩
set_option maxRecDepth 100000 in
set_option maxHeartbeats 2000000 in
theorem rwrite_any {F : Nat → Prop} {w : World} {b : Nat} {s : DS} (h : RD F w b s) (i : Int) (A : Option Addr) (p : List UInt8) (c : Nat) (hb : BS w A p c) (hA : ∀ ad, A = some ad → p = [] ∨ ¬ F ad.block) (hp : s.pend.length ≤ 1000) :
    Calls Try.prog 22 #[.pointer (some ⟨b, 0, none⟩), .int .i64 i, .slice A p.length c] w (DoesR F w b (.int .i64 (wrE s i p)) (wrS s i p)) := by
  have H0 := Lib.hid h.lt
  have HR := Lib.hid (alive_any h)
  have HB := Lib.hid hb
  have HA := Lib.hid hA
  clear h hb hA
  cases hr : runsB s with
  | false =>
    rw [hr] at HR
    rw [show wrE s i p = 9 by simp [wrE, hr], show wrS s i p = ticked s by simp [wrS, hr]]
    clear hr
    go_enter Try.func22, Try.ntmps22
    go_wp2_with fail
    refine HR.out.mono ?_
    rintro e w1 ⟨rfl, h1, h2⟩
    have h1' := Lib.hid h1
    have h2' := Lib.hid h2
    clear h1 h2
    go_wp2
    go_ret
    exact ⟨rfl, h1'.out, h2'.out⟩
  | true =>
    rw [hr] at HR
    cases hf : fits s i p with
    | false =>
      rw [show wrE s i p = 1 by simp [wrE, hr, hf], show wrS s i p = ticked s by simp [wrS, hf]]
      clear hr
      simp only [fits, decide_eq_false_iff_not] at hf
      have hcase : i < 0 ∨ (0 ≤ i ∧ (s.now.length : Int) ≤ i) ∨ (0 ≤ i ∧ i < s.now.length ∧ 64 < p.length) := by omega
      have HL := Lib.hid (show (ticked s).now.length = s.now.length from rfl)
      clear hf
      generalize ticked s = s1 at *
      rcases hcase with q1 | ⟨q1, q2⟩ | ⟨q1, q2, q3⟩
      all_goals (
        try have hdd : decide ((s.now.length : Int) ≤ i) = false := by simp; omega
        go_enter Try.func22, Try.ntmps22
        go_wp2_with fail
        refine HR.out.mono ?_
        rintro e w1 ⟨rfl, h1, h2⟩
        have h1' := Lib.hid h1
        have h2' := Lib.hid h2
        obtain ⟨ov, sv, wv, n, d, hm⟩ := h1
        obtain ⟨k0, k1, k2, k3, k4, kf⟩ := hm.cells
        obtain ⟨A1, c1, hsv⟩ := own_slice hm.rs
        rw [HL.out] at hsv
        subst hsv
        clear h2 hm
        go_wp2
        go_ret
        exact ⟨rfl, h1'.out, h2'.out⟩)
    | true =>
      rw [show wrE s i p = 0 by simp [wrE, hr, hf], show wrS s i p = put (ticked s) i.toNat (pad p) by simp [wrS, hr, hf]]
      have hf2 := hf
      simp only [fits, decide_eq_true_eq] at hf2
      obtain ⟨i0', i1, hl⟩ := hf2
      obtain ⟨j, rfl⟩ : ∃ j : Nat, i = j := ⟨i.toNat, by omega⟩
      have hj : j < (ticked s).now.length := by simp only [ticked]; omega
      have hpn : (ticked s).pend.length ≤ 1000 := hp
      clear hr hf i1 i0' hp
      rw [show (j : Int).toNat = j by omega]
      have Hq := Lib.hid (pad_len hl)
      generalize ticked s = s1 at *
      go_enter Try.func22, Try.ntmps22
      go_wp2_with fail
      refine HR.out.mono ?_
      rintro e w1 ⟨rfl, h1, h2⟩
      have h2' := Lib.hid h2
      have HB1 := Lib.hid ((HB.out.chg h2 HA.out).below (Below.refl _ _).drew)
      obtain ⟨ov, sv, wv, n, d, hm⟩ := h1
      obtain ⟨g, cg, hsv, hcj, hfj⟩ := row_str hm.rs j hj
      subst hsv
      have HM := Lib.hid hm
      obtain ⟨k0, k1, k2, k3, k4, kf⟩ := hm.cells
      have hbl := hm.lt b hm.fb
      have hgl := hm.lt g (hm.fs g rfl)
      have HPD := Lib.hid (padded_any A p c HB1.out hl)
      clear h2 hm k0 k3 k4
      generalize pad p = q at *
      go_wp2_with fail
      go_region_with ((first
        | (go_at_call 33; refine HPD.out.mono ?_; rintro e w2 ⟨rfl, hb2⟩; have j1 : w2.cell? ⟨b, 1, none⟩ = some (.slice (some ⟨g, 0, none⟩) s1.now.length cg) := (hb2.cell (p := ⟨b, 1, none⟩) hbl).trans k1; have jj : w2.cell? ⟨g, j, none⟩ = some (.string (bstr s1.now[j])) := (hb2.cell (p := ⟨g, j, none⟩) hgl).trans hcj; have jg : w2.frozen? ⟨g, j, none⟩ = false := (hb2.frozen (p := ⟨g, j, none⟩) hgl).trans hfj; have HB2 : Hid (Below w1.heap.size w1 w2) := Lib.hid ((Below.refl w1.heap.size w1).drew.trans hb2); clear hb2)))
      all_goals (
        obtain ⟨i0, hi0, hz0, hz1, hz2⟩ := info_parts infoQ
        obtain ⟨w3, HW3⟩ : ∃ W, Hid (W = w2.setCell ⟨g, j, none⟩ (.string (bstr q))) := ⟨_, rfl⟩
        rw [← HW3.out]
        have hg3 : w2.grownBy w3 (some g) := by rw [HW3.out]; exact grown_set w2 g j _
        have nbs : b ≠ g := fun e => HM.out.nb HM.out.rs (by decide) (by simp [Value.ownBlock, e])
        have hs2 := HB2.out.size
        have hs3 := hg3.size
        have hbk3 : w3.heap[b]? = _ := (hg3.block b (by omega) (fun e => by injection e with e; exact nbs e)).trans ((HB2.out.block b hbl).trans HM.out.blk)
        have m1 : w3.cell? ⟨b, 1, none⟩ = some (.slice (some ⟨g, 0, none⟩) s1.now.length cg) := by rw [cell_of_row w3 b _ _ _ _ hbk3]; rfl
        have m2 : w3.cell? ⟨b, 2, none⟩ = some wv := by rw [cell_of_row w3 b _ _ _ _ hbk3]; rfl
        have mj : w3.cell? ⟨g, j, none⟩ = some (.string (bstr q)) := by rw [HW3.out]; exact World.cell?_setCell_same _ _ _ jj
        have hb3 : b < w3.heap.size := by omega
        have hgl3 : g < w3.heap.size := by omega
        have m1a : (w3.alloc (.cells #[.int .i64 (j : Nat), .string (bstr q)] 91)).cell? ⟨b, 1, none⟩ = some (.slice (some ⟨g, 0, none⟩) s1.now.length cg) := (World.cell?_alloc_past (w := w3) _ b 1 hb3).trans m1
        have m2a : (w3.alloc (.cells #[.int .i64 (j : Nat), .string (bstr q)] 91)).cell? ⟨b, 2, none⟩ = some wv := (World.cell?_alloc_past (w := w3) _ b 2 hb3).trans m2
        have mja : (w3.alloc (.cells #[.int .i64 (j : Nat), .string (bstr q)] 91)).cell? ⟨g, j, none⟩ = some (.string (bstr q)) := (World.cell?_alloc_past (w := w3) _ g j hgl3).trans mj
        have M2 : Hid ((w3.alloc (.cells #[.int .i64 (j : Nat), .string (bstr q)] 91)).drew.cell? ⟨b, 2, none⟩ = some wv) := m2a
        have MF : Hid ((w3.alloc (.cells #[.int .i64 (j : Nat), .string (bstr q)] 91)).drew.frozen? ⟨b, 2, none⟩ = false) := (World.frozen?_alloc_past (w := w3) _ b 2 hb3).trans (frozen_of_row w3 b 2 _ _ hbk3)
        have H3A : Hid (b < (w3.alloc (.cells #[.int .i64 (j : Nat), .string (bstr q)] 91)).drew.heap.size) := Lib.hid (show b < (w3.alloc (.cells #[.int .i64 (j : Nat), .string (bstr q)] 91)).heap.size by simp; omega)
        have HN3 : Hid (some b ≠ wv.ownBlock) := fun e => HM.out.nb HM.out.rw (by decide) e.symm
        have hr3 : w3.ownsRow 0 91 2 wv s1.pend.length (qcs s1.pend) := own_same HM.out.rw (fun k e => (hg3.block k (Nat.lt_of_lt_of_le (HM.out.lt k (HM.out.fw k e)) hs2) (fun e' => by injection e' with e'; subst e'; exact HM.out.nw HM.out.rs rfl e)).trans (HB2.out.block k (HM.out.lt k (HM.out.fw k e))))
        have HX : Hid ((w3.alloc (.cells #[.int .i64 (j : Nat), .string (bstr q)] 91)).drew.ownsRow 0 91 2 wv s1.pend.length (qcs s1.pend)) := (hr3.alloc _)
        have HNW : Hid (∀ k u, (qc (j, q))[k]? = some u → (w3.alloc (.cells #[.int .i64 (j : Nat), .string (bstr q)] 91)).drew.cell? ((⟨w3.heap.size, 0, none⟩ : Addr).add k) = some u) := World.news_of_block (w := (w3.alloc (.cells #[.int .i64 (j : Nat), .string (bstr q)] 91)).drew) (heap_alloc_new w3 _)
        clear hg3 hbk3 hr3 j1 jj jg hcj hfj k1 k2 kf
        go_wp2_with fail
        go_region_law ((first
          | (refine step_append_lies _ rfl (.tmp 40) (.tmp 50) 65 rfl 0 91 i0 _ 2 24 Try.underlying65 hi0 hz0 hz1 hz2 rfl (by decide) wv _ _ rfl HX.out ⟨w3.heap.size, 0, none⟩ 1 1 (qc (j, q)) rfl rfl HNW.out (qc_one _) (by decide) (by unfold maxLen; omega) (by omega) (Nat.zero_le _) _ rfl ?_; intro g' cap w4 ho hgr hat hlt; have q2 := (hgr.cell_far ⟨b, 2, none⟩ H3A.out HN3.out).trans M2.out; have qf := (hgr.frozen_far ⟨b, 2, none⟩ H3A.out HN3.out).trans MF.out; have HGR := Lib.hid hgr; have HO := Lib.hid ho; have HAT := Lib.hid hat; have HLT := Lib.hid hlt; clear ho hgr hat hlt)))
        all_goals (
          clear q2 qf m1 m2 mj m1a m2a mja
          go_wp2
          go_ret
          have hV : Below w2.heap.size (w2.setCell ⟨g, j, none⟩ (.string (bstr q))) (w3.alloc (.cells #[.int .i64 (j : Nat), .string (bstr q)] 91)).drew := by
            have e : Below w2.heap.size (w2.setCell ⟨g, j, none⟩ (.string (bstr q))) w3 := by rw [HW3.out]; exact Below.refl _ _
            exact (e.alloc hs3 _).drew
          exact DoesR.next h2'.out (rwrite_end HM.out hj Hq.out HB2.out hV HO.out HGR.out HAT.out HLT.out) H0.out))
end Go.Proofs.Ytembonenaoineaa
