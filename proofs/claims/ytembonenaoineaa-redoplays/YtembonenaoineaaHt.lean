/- What read, a header as the reference's log reads it, does: a contract. Conditions: the Drum lies in memory and has the sector. -/
import Derived.Test.YtembonenaoineaaHr
import Derived.Test.YtembonenaoineaaLf
import Derived.Test.YtembonenaoineaaGd
namespace Go.Proofs.Ytembonenaoineaa
set_option maxRecDepth 100000
set_option linter.unusedVariables false
open Go.ChangeShapes Go.WideShapes Go.ChangeAt Go.RowKit
open Lb (encI encIs encS In64 encI_len nxtI resI)
set_option maxHeartbeats 4000000 in
theorem rhead_any {F : Nat → Prop} {w : World} {b : Nat} {s : DS} (h : RD F w b s) (i : Nat) (hi : i < s.now.length) (h4 : 4 ≤ s.now.length) :
    Calls Try.prog 38 #[.pointer (some ⟨b, 0, none⟩), .int .i64 (i : Nat)] w (HdIs (hdAt s.now i) w) := by
  have HP := Lib.hid h
  have hsl := sec_len h.ok hi
  have HRD := Lib.hid (rd_at s i)
  clear h
  generalize hl : s.now.getD i [] = l at *
  have HAT : Hid (hdAt s.now i = hdIn (bk s.now) l) := by simp only [Hid, hdAt]; rw [hl]
  have HSL := Lib.hid hsl
  clear hl hsl
  have hb0 := (Below.refl w.heap.size w).alloc (Nat.le_refl _) (.cells #[.int .i64 0, .int .i64 0, .int .i64 0] 51)
  have HB0 := Lib.hid hb0
  have HP0 := Lib.hid (HP.out.below hb0)
  clear hb0
  go_enter Try.func38, Try.ntmps38
  go_wp2_with fail
  refine (rread_any HP0.out (i : Nat)).mono ?_
  rintro e w1 ⟨A1, c1, rfl, hbs1, hb1⟩
  rw [HRD.out] at hbs1
  obtain ⟨g, hcur, hg⟩ := cur_arg 101 hbs1 (Below.refl w1.heap.size w1) (by rw [HSL.out]; decide)
  rw [HSL.out] at hcur
  rw [HRD.out, HSL.out]
  have HC1 := Lib.hid hcur
  have hz1 := hb1.size
  simp only [World.size_alloc] at hz1
  have HB1 : Hid (Below (w.heap.size + 1) (w.alloc (.cells #[.int .i64 0, .int .i64 0, .int .i64 0] 51)) w1) := by simp only [Hid]; simpa using hb1
  clear hbs1 hb1 hcur
  go_wp2_with fail
  refine (rcint_any w1.heap.size g (some l) _ HC1.out).mono ?_
  rintro e w2 ⟨rfl, hc2, hg2⟩
  have b1 := resI_bd (some l)
  have hz2 := hg2.size
  simp only [World.size_alloc] at hz2
  have HB2 := Lib.hid (below_grown (HB1.out.alloc hz1 (.cells #[.slice A1 64 c1, .bool false] 101)) hg2 (by simp) (by omega))
  obtain ⟨n, hn⟩ : ∃ n, resI (some l) = n := ⟨_, rfl⟩
  rw [hn] at b1
  rw [hn]
  have HN := Lib.hid hn
  obtain ⟨W3, hW3⟩ : ∃ W3, w2.alloc (.cells #[.int .i64 n, .int .i64 0, .int .i64 0] 51) = W3 := ⟨_, rfl⟩
  have hz3 : W3.heap.size = w2.heap.size + 1 := by rw [← hW3]; simp
  have hb3 : Below w2.heap.size w2 W3 := by rw [← hW3]; exact (Below.refl w2.heap.size w2).alloc (Nat.le_refl _) _
  have y3 : W3.heap[w2.heap.size]? = some (.cells #[.int .i64 n, .int .i64 0, .int .i64 0] 51 (0, 0)) := by rw [← hW3]; exact heap_alloc_new w2 _
  have HW3 := Lib.hid hW3
  have HC3 := Lib.hid (Cur.below hc2 hb3)
  have HB3 := Lib.hid (HB2.out.trans (hb3.mono (by omega)))
  have HY3 := Lib.hid y3
  clear hc2 hg2 hn hW3 hb3 y3 HC1 HB2
  go_wp2_with fail
  rw [HW3.out]
  refine (rcint_any w1.heap.size g _ W3 HC3.out).mono ?_
  rintro e w4 ⟨rfl, hc4, hg4⟩
  have b2 := resI_bd (nxtI (some l))
  have hz4 := hg4.size
  have HB4 := Lib.hid (below_grown HB3.out hg4 (by simp) (by omega))
  have y4 := (hg4.block w2.heap.size (by omega) (fun e => by injection e with e; omega)).trans HY3.out
  have q41 : w4.cell? ⟨w2.heap.size, 1, none⟩ = some (.int .i64 0) := by rw [cell_of_row w4 _ _ _ _ _ y4]; rfl
  have f41 : w4.frozen? ⟨w2.heap.size, 1, none⟩ = false := frozen_of_row w4 _ _ _ _ y4
  obtain ⟨k, hk⟩ : ∃ k, resI (nxtI (some l)) = k := ⟨_, rfl⟩
  rw [hk] at b2
  rw [hk]
  have HK := Lib.hid hk
  have HC4 := Lib.hid hc4
  have HY4 := Lib.hid y4
  clear hc4 hg4 hk y4 HC3 HB3 HY3
  go_wp2_with fail
  have hcu5 : Cur (w4.setCell ⟨w2.heap.size, 1, none⟩ (.int .i64 k)) w1.heap.size g (nxtI (nxtI (some l))) := HC4.out.kept (grown_set w4 w2.heap.size 1 _) (fun e => by injection e with e; omega) (.inr (fun e => by have := hg _ e; omega))
  have hb5 : Below (w.heap.size + 1) (w.alloc (.cells #[.int .i64 0, .int .i64 0, .int .i64 0] 51)) (w4.setCell ⟨w2.heap.size, 1, none⟩ (.int .i64 k)) := HB4.out.setCell (p := ⟨w2.heap.size, 1, none⟩) (by simp only; omega) _
  have y5 := heap_setCell_same w4 w2.heap.size 1 _ _ (.int .i64 k) HY4.out
  have hz5 : (w4.setCell ⟨w2.heap.size, 1, none⟩ (.int .i64 k)).heap.size = w4.heap.size := by simp [World.setCell]
  generalize w4.setCell ⟨w2.heap.size, 1, none⟩ (.int .i64 k) = W5 at *
  refine (rcint_any w1.heap.size g _ W5 hcu5).mono ?_
  rintro e w6 ⟨rfl, hc6, hg6⟩
  have b3 := resI_bd (nxtI (nxtI (some l)))
  have hz6 := hg6.size
  have HB6 := Lib.hid (below_grown hb5 hg6 (by simp) (by omega))
  have y6 := (hg6.block w2.heap.size (by omega) (fun e => by injection e with e; omega)).trans y5
  have q62 : w6.cell? ⟨w2.heap.size, 2, none⟩ = some (.int .i64 0) := by rw [cell_of_row w6 _ _ _ _ _ y6]; rfl
  have f62 : w6.frozen? ⟨w2.heap.size, 2, none⟩ = false := frozen_of_row w6 _ _ _ _ y6
  obtain ⟨z, hz⟩ : ∃ z, resI (nxtI (nxtI (some l))) = z := ⟨_, rfl⟩
  rw [hz] at b3
  rw [hz]
  have HZ := Lib.hid hz
  have HCU7 := Lib.hid (hc6.kept (grown_set w6 w2.heap.size 2 (.int .i64 z)) (fun e => by injection e with e; omega) (.inr (fun e => by have := hg _ e; omega)))
  have HB7 : Hid (Below (w.heap.size + 1) (w.alloc (.cells #[.int .i64 0, .int .i64 0, .int .i64 0] 51)) (w6.setCell ⟨w2.heap.size, 2, none⟩ (.int .i64 z))) := HB6.out.setCell (p := ⟨w2.heap.size, 2, none⟩) (by simp only; omega) _
  have y7 := heap_setCell_same w6 w2.heap.size 2 _ _ (.int .i64 z) y6
  have HY7 : Hid ((w6.setCell ⟨w2.heap.size, 2, none⟩ (.int .i64 z)).heap[w2.heap.size]? = some (.cells #[.int .i64 n, .int .i64 k, .int .i64 z] 51 (0, 0))) := y7
  have hz7 : (w6.setCell ⟨w2.heap.size, 2, none⟩ (.int .i64 z)).heap.size = w6.heap.size := by simp [World.setCell]
  clear hc6 hg6 hz y6 y7 y5 hcu5 hb5 HB6 HC4 HB4 HY4 q41 f41
  have HSET : Hid (∃ W7, w6.setCell ⟨w2.heap.size, 2, none⟩ (.int .i64 z) = W7) := ⟨_, rfl⟩
  go_wp2_with fail
  clear q62 f62
  obtain ⟨W7, hW7⟩ := HSET.out
  rw [hW7] at HCU7 HB7 HY7 hz7
  rw [hW7]
  clear HSET hW7
  have HBW : Hid (∀ W, Below (w.heap.size + 1) (w.alloc (.cells #[.int .i64 0, .int .i64 0, .int .i64 0] 51)) W → Below w.heap.size w W) := fun W hW => HB0.out.trans (hW.mono (by omega))
  have HP7 := Lib.hid (HP.out.below (HBW.out _ HB7.out))
  have y0 : W7.cell? ⟨w2.heap.size, 0, none⟩ = some (.int .i64 n) := by rw [cell_of_row W7 _ _ _ _ _ HY7.out]; rfl
  have y1 : W7.cell? ⟨w2.heap.size, 1, none⟩ = some (.int .i64 k) := by rw [cell_of_row W7 _ _ _ _ _ HY7.out]; rfl
  have y2 : W7.cell? ⟨w2.heap.size, 2, none⟩ = some (.int .i64 z) := by rw [cell_of_row W7 _ _ _ _ _ HY7.out]; rfl
  have HCR : Hid (∀ W, Below (w.heap.size + 1) (w.alloc (.cells #[.int .i64 0, .int .i64 0, .int .i64 0] 51)) W → W.cell? ⟨w.heap.size, 0, none⟩ = some (.int .i64 0) ∧ W.cell? ⟨w.heap.size, 1, none⟩ = some (.int .i64 0) ∧ W.cell? ⟨w.heap.size, 2, none⟩ = some (.int .i64 0) ∧ ∀ o, W.frozen? ⟨w.heap.size, o, none⟩ = false) := fun W hW => by
    obtain ⟨hc, hf⟩ := bcell (W := w.alloc (.cells #[.int .i64 0, .int .i64 0, .int .i64 0] 51)) (w1 := W) (by simpa using hW)
    refine ⟨?_, ?_, ?_, fun o => ?_⟩
    · rw [hc _ _ (by simp), cell_of_row _ _ _ _ _ _ (heap_alloc_new w _)]; rfl
    · rw [hc _ _ (by simp), cell_of_row _ _ _ _ _ _ (heap_alloc_new w _)]; rfl
    · rw [hc _ _ (by simp), cell_of_row _ _ _ _ _ _ (heap_alloc_new w _)]; rfl
    · rw [hf _ _ (by simp)]; exact frozen_of_row _ _ _ _ _ (heap_alloc_new w _)
  have HOK : Hid (hdOk (bk s.now) l = (hvB (bk s.now) n k z && decide (pad (hdE n k z) = l))) := by simp only [Hid]; rw [← HN.out, ← HK.out, ← HZ.out]; rfl
  have HYES : Hid (hdOk (bk s.now) l = true → hdIn (bk s.now) l = ⟨n.toNat, k.toNat, z.toNat⟩ ∧ n = (n.toNat : Nat) ∧ k = (k.toNat : Nat) ∧ z = (z.toNat : Nat)) := by
    simp only [Hid]
    rw [← HN.out, ← HK.out, ← HZ.out]
    exact hd_yes
  have HRS : Hid (pad (hdE n k z) = l ↔ ∃ r, nxtI (nxtI (nxtI (some l))) = some r ∧ ∀ b ∈ r, b = 0) := by
    simp only [Hid]
    rw [← HN.out, ← HK.out, ← HZ.out]
    exact hd_rest HSL.out
  generalize nxtI (nxtI (nxtI (some l))) = st at *
  have hca := HCU7.out.1
  clear HN HK HZ HW3 hz1 hz2 hz3 hz4 hz5 hz6 HB1 HRD HP0
  cases st with
  | none =>
    obtain ⟨_, _, _, _, k1, k2⟩ := HCU7.out
    have HNO : Hid (hdAt s.now i = hd0) := by
      simp only [Hid]; rw [HAT.out]
      refine hd_no ?_
      rw [HOK.out]
      have : ¬ pad (hdE n k z) = l := fun e => by obtain ⟨r, hr, _⟩ := HRS.out.1 e; cases hr
      simp [this]
    go_loop [7] (fun i => i = .int .i64 0) (fun _ => 0)
    case atStart => rfl
    case round =>
      subst hrel
      go_wp2_with fail
      go_quiet ((go_at_call 39; with_reducible exact quiet_eq (sectors_any (HP7.out.drewN _) h4)))
      have HBq := Lib.hid (below_drewN HB7.out nq)
      obtain ⟨p0, p1, p2, pf⟩ := HCR.out _ HBq.out
      go_wp2
      obtain ⟨s0, s1, s2⟩ := set3 (.int .i64 0) (.int .i64 0) (.int .i64 0) p0 p1 p2
      rw [HNO.out]
      refine bodyPost_ret (v := hV hd0) (by simp [results, Try.results38, go_sem, s0, s1, s2]; rfl) rfl ⟨rfl, below_set3 (HBW.out _ HBq.out) (Nat.le_refl _) _ _ _⟩
  | some r =>
    obtain ⟨_, _, _, _, A2, c2, k1, k2, k3, k4, k5⟩ := HCU7.out
    have K3 := Lib.hid k3
    have hcap := k3.cap
    clear k3 k4
    go_loop [7] (fun i => ∃ j : Nat, i = .int .i64 j ∧ j ≤ r.length ∧ Hid (∀ t (h : t < r.length), t < j → r[t] = 0)) (fun i => r.length - (intOf i).toNat)
    case atStart => exact ⟨0, rfl, Nat.zero_le _, fun t h ht => absurd ht (by omega)⟩
    case round =>
      obtain ⟨j, rfl, hj, HJ⟩ := hrel
      by_cases hlt : j < r.length
      · obtain ⟨ad, hA, hc⟩ := K3.out.cells j hlt
        subst hA
        have hb := Lb.u8lt r[j]
        obtain ⟨q, hq⟩ : ∃ q : Nat, r[j].toNat = q := ⟨_, rfl⟩
        rw [hq] at hc hb
        have Hq := Lib.hid hq
        clear hq
        by_cases hq0 : q = 0
        · subst hq0
          go_wp2_with fail
          refine ⟨⟨j + 1, by go_num, by omega, ?_⟩, by simp [intOf]; omega⟩
          intro t ht htj
          rcases Nat.lt_or_ge t j with hh | hh
          · exact HJ.out t ht hh
          · obtain rfl : t = j := by omega
            exact UInt8.toNat_inj.1 (by rw [Hq.out]; rfl)
        · have hqq : ((q : Int) == 0) = false := by simp; omega
          have HNO : Hid (hdAt s.now i = hd0) := by
            simp only [Hid]; rw [HAT.out]
            refine hd_no ?_
            rw [HOK.out]
            have : ¬ pad (hdE n k z) = l := fun e => by
              obtain ⟨r', hr, h0⟩ := HRS.out.1 e
              injection hr with hr
              subst hr
              have h1 := h0 r[j] (List.getElem_mem hlt)
              have h2 := Hq.out
              rw [h1] at h2
              exact hq0 h2.symm
            simp [this]
          obtain ⟨p0, p1, p2, pf⟩ := HCR.out _ HB7.out
          go_wp2
          obtain ⟨s0, s1, s2⟩ := set3 (.int .i64 0) (.int .i64 0) (.int .i64 0) p0 p1 p2
          rw [HNO.out]
          refine bodyPost_ret (v := hV hd0) (by simp [results, Try.results38, go_sem, s0, s1, s2]; rfl) rfl ⟨rfl, below_set3 (HBW.out _ HB7.out) (Nat.le_refl _) _ _ _⟩
      · obtain rfl : j = r.length := by omega
        have HOK2 : Hid (hdOk (bk s.now) l = hvB (bk s.now) n k z) := by
          simp only [Hid]
          rw [HOK.out]
          have : pad (hdE n k z) = l := HRS.out.2 ⟨r, rfl, fun b hb => by
            obtain ⟨t, ht, rfl⟩ := List.getElem_of_mem hb
            exact HJ.out t ht ht⟩
          simp [this]
        have hbk := bk_few HP.out.ok.few
        clear HOK HRS HJ K3
        have hwr : IntKind.i64.wrap ((bk s.now : Int) * 64) = (bk s.now : Int) * 64 := IntWalk.i64_in _ (by omega)
        by_cases hv : 1 ≤ n ∧ n ≤ 1099511627776 ∧ (k = 0 ∨ k = 1) ∧ 0 ≤ z ∧ z ≤ ((bk s.now * 64 : Nat) : Int)
        · have HY := Lib.hid (HYES.out (by rw [HOK2.out]; exact decide_eq_true hv))
          obtain ⟨v1, v2, v3, v4, v5⟩ := hv
          have v6 : 0 ≤ k := by omega
          have v7 : k ≤ 1 := by omega
          have v8 : z ≤ (bk s.now : Int) * 64 := by omega
          have v9 : (bk s.now : Int) * 64 ≤ 6400 := by omega
          clear v3 v5
          go_wp2_with fail
          go_quiet ((go_at_call 39; with_reducible exact quiet_eq (sectors_any (HP7.out.drewN _) h4)))
          have HBq := Lib.hid (below_drewN HB7.out nq)
          obtain ⟨p0, p1, p2, pf⟩ := HCR.out _ HBq.out
          have x0 : (W7.drewN nq).cell? ⟨w2.heap.size, 0, none⟩ = some (.int .i64 n) := y0
          have x1 : (W7.drewN nq).cell? ⟨w2.heap.size, 1, none⟩ = some (.int .i64 k) := y1
          have x2 : (W7.drewN nq).cell? ⟨w2.heap.size, 2, none⟩ = some (.int .i64 z) := y2
          go_wp2
          · show _
            obtain ⟨s0, s1, s2⟩ := set3 (.int .i64 n) (.int .i64 k) (.int .i64 z) p0 p1 p2
            obtain ⟨y1', y2', y3', y4'⟩ := HY.out
            have e : hV (hdAt s.now i) = hdV n k z := by rw [HAT.out, y1']; unfold hV hdV; simp only; rw [← y2', ← y3', ← y4']
            refine bodyPost_ret (v := hdV n k z) (by simp [results, Try.results38, go_sem, s0, s1, s2]; rfl) rfl ⟨by rw [e], below_set3 (HBW.out _ HBq.out) (Nat.le_refl _) _ _ _⟩
        · have HNO : Hid (hdAt s.now i = hd0) := by
            simp only [Hid]; rw [HAT.out]
            refine hd_no ?_
            rw [HOK2.out]
            exact decide_eq_false hv
          have hv' : n < 1 ∨ (1 ≤ n ∧ 1099511627776 < n) ∨ (1 ≤ n ∧ n ≤ 1099511627776 ∧ k < 0) ∨ (1 ≤ n ∧ n ≤ 1099511627776 ∧ 0 ≤ k ∧ 1 < k) ∨ (1 ≤ n ∧ n ≤ 1099511627776 ∧ 0 ≤ k ∧ k ≤ 1 ∧ z < 0) ∨ (1 ≤ n ∧ n ≤ 1099511627776 ∧ 0 ≤ k ∧ k ≤ 1 ∧ 0 ≤ z ∧ (bk s.now : Int) * 64 < z) := by omega
          have v9 : (bk s.now : Int) * 64 ≤ 6400 := by omega
          clear hv
          rcases hv' with v1 | ⟨v1, v2⟩ | ⟨v1, v2, v3⟩ | ⟨v1, v2, v3, v4⟩ | ⟨v1, v2, v3, v4, v5⟩ | ⟨v1, v2, v3, v4, v5, v6⟩
          all_goals (
            go_wp2_with fail
            go_quiet ((go_at_call 39; with_reducible exact quiet_eq (sectors_any (HP7.out.drewN _) h4)))
            have HBq := Lib.hid (below_drewN HB7.out nq)
            obtain ⟨p0, p1, p2, pf⟩ := HCR.out _ HBq.out
            go_wp2
            obtain ⟨s0, s1, s2⟩ := set3 (.int .i64 0) (.int .i64 0) (.int .i64 0) p0 p1 p2
            rw [HNO.out]
            refine bodyPost_ret (v := hV hd0) (by simp [results, Try.results38, go_sem, s0, s1, s2]; rfl) rfl ⟨rfl, below_set3 (HBW.out _ HBq.out) (Nat.le_refl _) _ _ _⟩)
end Go.Proofs.Ytembonenaoineaa
